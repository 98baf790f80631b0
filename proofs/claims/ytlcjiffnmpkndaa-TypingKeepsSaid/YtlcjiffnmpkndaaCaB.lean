/-
  The places between two, asked with what they are; the places that go back from one; the first open field's of places; the next one's.
-/
import Derived.Test.YtlcjiffnmpkndaaCaP
namespace Go.Proofs.Ytlcjiffnmpkndaa.Pl
open Go.RowKit Go.Shelf Base
attribute [local go_sem] Oper.semAt_some
set_option linter.unusedVariables false
set_option linter.unusedSimpArgs false

set_option maxRecDepth 100000 in
set_option maxHeartbeats 1000000 in
/-- The iterator at places that are there: all from a on up to b, or a first part, where a round has said so. -/
theorem betw_known (m : Nat) (hm : 1 ≤ m) (l N bf bc bt bs : Nat) (a n b r c : Int) (hin : inn n a b = true) (hn : Hid (cells r c = n)) (J Jx : List Int → World → Prop)
    (hY : ∀ pre x W, pre ++ [x] <+: betw n a b → J pre W → pre.length < many n a b → YieldAt Fence.wide (m - 1) Try.prog l #[.int .i64 x] W fun e W' =>
      (e = .returned (.bool true) ∧ J (pre ++ [x]) W' ∧ Keep4 bf bc bt bs W W') ∨ (e = .returned (.bool false) ∧ Jx (pre ++ [x]) W'))
    (hJ : ∀ s W W', N ≤ W.heap.size → J s W → Below W.heap.size W W' → J s W')
    (W : World) (hNW : N ≤ W.heap.size) (hI : BetIter N W bf bc bt bs a n b r c) (h0 : J [] W) :
    CallsIn Fence.wide m Try.prog 139 #[.func (.yield l) #[] #[], .pointer (some ⟨bf, 0, none⟩), .pointer (some ⟨bc, 0, none⟩), .pointer (some ⟨bt, 0, none⟩), .pointer (some ⟨bs, 0, none⟩)] W fun e W' => (∃ v, e = .returned v) ∧
      ((∃ ys, ys = betw n a b ∧ J ys W') ∨ (∃ pre, pre <+: betw n a b ∧ Jx pre W')) := by
  have hI0 := hI
  obtain ⟨_, c1, c2, c3, c4, c5⟩ := hI
  have hin' : 0 ≤ a ∧ a < n ∧ 0 ≤ b ∧ b < n := of_decide_eq_true hin
  obtain ⟨ha0, ha1, hb0, hb1⟩ := hin'
  have HI := Lib.hid hI0
  clear hI0
  have n1 := (cells_bd r c).2
  rw [hn.out] at n1
  obtain ⟨M, hM⟩ : ∃ M, M = many n a b := ⟨_, rfl⟩
  have hmb := many_bd n a b hin
  have hB : betw n a b = first n a M := by rw [hM]; unfold betw; rw [if_pos hin]
  rw [← hM] at hY hmb
  obtain ⟨M1, M2⟩ := hmb
  have HM := Lib.hid hM
  have HB := Lib.hid hB
  have HIN := Lib.hid hin
  clear hM hB hin
  refine callsIn_of_wp Try.func139 rfl trivial ?_ rfl
  simp only [Try.ntmps139, List.size_toArray, List.length_cons, List.length_nil, Nat.reduceAdd, Nat.reduceSub, Array.replicate_succ, Array.replicate_zero, List.push_toArray, List.append_toArray, List.nil_append, List.cons_append]
  gi_wp2_with (refine ⟨trivial, ?_⟩; gi_at_call 111; first | ((with_reducible refine (callsIn_wide.2 (inside_yes _ _ _ ha0 ha1)).mono ?_); rintro e w' ⟨rfl, rfl⟩) | ((with_reducible refine (callsIn_wide.2 (inside_yes _ _ _ hb0 hb1)).mono ?_); rintro e w' ⟨rfl, rfl⟩))
  gi_loopw [6] (fun p wr => ∃ i : Nat, i < M ∧ p = .int .i64 (step n a i) ∧ J (first n a i) wr ∧ Keep4 bf bc bt bs W wr) (fun p _ => many n (intOf p) b)
  case atStart =>
    exact ⟨0, by omega, by rw [step_zero n a ha0 ha1], h0, Keep4.refl _ _ _ _ _⟩
  case round =>
    obtain ⟨i, hi, rfl, hJi, hBi⟩ := hrel
    have hlen := first_length n a i
    obtain ⟨fn, tmps, assign, body, hy, hR⟩ := hY (first n a i) (step n a i) wr (by rw [HB.out, ← first_succ, first_prefix n a (i+1) M (by omega)]; exact List.take_prefix _ _) hJi (by rw [hlen]; exact hi)
    clear hlen
    gi_wp2
    refine hR.mono ?_
    rintro e W3 (⟨rfl, hJ3, hk3⟩ | ⟨rfl, hJx3⟩)
    · have hI3 := HI.out.keep (hBi.trans hk3)
      have h4 := hI3.1
      obtain ⟨⟨_, _, hbt, _⟩, d1, d2, d3, d4, d5⟩ := hI3
      have hsz : N ≤ W3.heap.size := by have := hBi.1; have := hk3.1; omega
      by_cases he : step n a (i + 1) = b
      · have HE := Lib.hid he
        have het : (step n a (i + 1) == b) = true := by simpa using he
        clear he
        gi_wp2_with (refine ⟨trivial, ?_⟩; gi_at_call 69; refine (callsIn_wide.2 (move_step _ _ _ _ _ _ hn (by omega) (by omega))).mono ?_; rintro e w' ⟨rfl, hbm⟩; have d3' := (hbm.cell (p := ⟨bt, 0, none⟩) (Nat.lt_of_lt_of_le hbt hsz)).trans d3)
        refine bodyPost_ret (results_none rfl _ _ _) rfl ?_
        exact ⟨⟨_, rfl⟩, .inl ⟨_, rfl, by rw [HB.out, HM.out, ← (step_end n a b i HIN.out (by rw [← HM.out]; exact hi)).1 HE.out, first_succ]; exact hJ _ _ _ hsz hJ3 hbm⟩⟩
      · have HE := Lib.hid he
        have het : (step n a (i + 1) == b) = false := by simpa using he
        clear he
        gi_wp2_with (refine ⟨trivial, ?_⟩; gi_at_call 69; refine (callsIn_wide.2 (move_step _ _ _ _ _ _ hn (by omega) (by omega))).mono ?_; rintro e w' ⟨rfl, hbm⟩; have d3' := (hbm.cell (p := ⟨bt, 0, none⟩) (Nat.lt_of_lt_of_le hbt hsz)).trans d3)
        go_roundw
        case rel =>
          refine ⟨i + 1, ?_, rfl, by rw [first_succ]; exact hJ _ _ _ hsz hJ3 hbm, (hBi.trans hk3).trans (Keep4.below h4 (hbm.mono hsz))⟩
          have h1 : ¬ i + 1 = many n a b := fun h => HE.out ((step_end n a b i HIN.out (by rw [← HM.out]; exact hi)).2 h)
          rw [← HM.out] at h1
          omega
        case measure =>
          have h1 : ¬ i + 1 = many n a b := fun h => HE.out ((step_end n a b i HIN.out (by rw [← HM.out]; exact hi)).2 h)
          rw [HM.out] at hi
          simp only [intOf]
          rw [many_step n a b i HIN.out hi, many_step n a b (i + 1) HIN.out (by omega)]
          omega
    · gi_wp2
      go_end0
      exact ⟨⟨_, rfl⟩, .inr ⟨_, by rw [HB.out, ← first_succ, first_prefix n a (i+1) M (by omega)]; exact List.take_prefix _ _, hJx3⟩⟩

theorem betw_ask (m : Nat) (hm : 1 ≤ m) (bf bc bt bs : Nat) (a n b r c : Int) (hn : Hid (cells r c = n)) (w : World) (hI : BetIter w.heap.size w bf bc bt bs a n b r c) :
    SeqP Fence.wide m Try.prog 139 #[.pointer (some ⟨bf, 0, none⟩), .pointer (some ⟨bc, 0, none⟩), .pointer (some ⟨bt, 0, none⟩), .pointer (some ⟨bs, 0, none⟩)] (fun x : Int => #[Value.int .i64 x]) (fun _ => Keep4 bf bc bt bs) (fun _ _ => True) (fun ys => ys = betw n a b) (fun pre => pre <+: betw n a b) (many n a b) 0 w := by
  intro l J Jx W hW hJ hJx hJp hY h0
  cases hin : inn n a b with
  | false =>
    refine (betw_none m hm l w.heap.size bf bc bt bs a n b r c hin J W (hI.below hW) h0).mono ?_
    rintro e W' ⟨hv, hj⟩
    exact ⟨hv, .inl ⟨[], by unfold betw; rw [hin]; rfl, hj⟩⟩
  | true =>
    refine (betw_known m hm l w.heap.size bf bc bt bs a n b r c hin hn (fun s X => J s X ∧ W.heap.size ≤ X.heap.size) Jx ?_ ?_ W hW.size (hI.below hW) ⟨h0, Nat.le_refl _⟩).mono ?_
    · intro pre x W1 hp h1 hlt
      refine (hY pre x W1 hp h1.1 hlt (by have := h1.2; omega)).mono fun e W' h => ?_
      rcases h with ⟨h2, h3, h4⟩ | ⟨h2, h3, _⟩
      · exact .inl ⟨h2, ⟨h3, Nat.le_trans h1.2 h4.1⟩, h4⟩
      · exact .inr ⟨h2, h3⟩
    · intro s X Y hs h1 hb
      exact ⟨hJ s X Y none h1.1 (grown_of_below hb) (fun _ h => by cases h), Nat.le_trans h1.2 hb.size⟩
    · rintro e W' ⟨hv, (⟨xs, hS, hj, _⟩ | h)⟩
      · exact ⟨hv, .inl ⟨xs, hS, hj⟩⟩
      · exact ⟨hv, .inr h⟩
/-! ### Back from a place -/
def PlS (b n : Nat) (r c : Int) (W : World) : Prop := ∃ g cur L, PlAt W b g r c cur L ∧ L.length = n
theorem PlAt.s {W : World} {b g : Nat} {r c cur : Int} {L : List Cl} (h : PlAt W b g r c cur L) : PlS b L.length r c W := ⟨g, cur, L, h, rfl⟩
theorem PlS.drew {W : World} {b n : Nat} {r c : Int} (h : PlS b n r c W) : PlS b n r c W.drew := by obtain ⟨g, cur, L, h, e⟩ := h; exact ⟨g, cur, L, h.drew, e⟩
theorem PlS.n {W : World} {b n : Nat} {r c : Int} (h : PlS b n r c W) : PlN b n W := by obtain ⟨g, cur, L, h, e⟩ := h; exact ⟨g, r, c, cur, L, h, e⟩
theorem PlS.cells {W : World} {b n : Nat} {r c : Int} (h : PlS b n r c W) : cells r c = (n : Int) := by obtain ⟨g, cur, L, h, e⟩ := h; rw [← e]; exact h.size
theorem size_s {W : World} {b n : Nat} {r c : Int} (h : PlS b n r c W) : Calls Try.prog 68 #[.pointer (some ⟨b, 0, none⟩)] W fun e W' => e = .returned (.agg #[.int .i64 r, .int .i64 c]) ∧ Below W.heap.size W W' := by
  obtain ⟨g, cur, L, h, e⟩ := h; exact size_any h
theorem cback_any (w : World) (b : Nat) (a : Int) : Calls Try.prog 75 #[.pointer (some ⟨b, 0, none⟩), .int .i64 a] w fun e W =>
    e = .returned (.func (.func 110) #[] #[.pointer (some ⟨w.heap.size, 0, none⟩), .pointer (some ⟨w.heap.size + 1, 0, none⟩)]) ∧ BackIt W w.heap.size (w.heap.size + 1) b a ∧ Below w.heap.size w W ∧ W.heap.size = w.heap.size + 2 := by
  go_enter Try.func75, Try.ntmps75
  go_wp2
  go_ret
  have e0 := heap_alloc_new w (.cells #[.pointer (some ⟨b, 0, none⟩)] 27)
  have e1 := heap_alloc_new (w.alloc (.cells #[.pointer (some ⟨b, 0, none⟩)] 27)) (.cells #[.int .i64 a] 3)
  simp only [World.size_alloc] at e1
  refine ⟨rfl, ⟨?_, e1⟩, (below_alloc w _).alloc (by simp) _, by simp⟩
  rw [Below.heap_alloc _ _ _ (by simp)]; exact e0
/-- The first k places that go back from one. -/
def cbK (n : Nat) (q : Int) (k : Nat) : List Int := (List.range k).map fun i : Nat => mv n q (-(i : Int))
theorem cbK_succ (n : Nat) (q : Int) (k : Nat) : cbK n q (k + 1) = cbK n q k ++ [mv n q (-(k : Int))] := by simp [cbK, List.range_succ]
theorem cbK_length (n : Nat) (q : Int) (k : Nat) : (cbK n q k).length = k := by simp [cbK]
theorem cbK_prefix (n : Nat) (q : Int) {k m : Nat} (h : k ≤ m) : cbK n q k <+: cbK n q m := by
  have : cbK n q k = (cbK n q m).take k := by simp [cbK, ← List.map_take, List.take_range, Nat.min_eq_left h]
  rw [this]; exact List.take_prefix _ _
theorem yield_bool {e : Ending} {A B : Prop} (h : (e = .returned (.bool true) ∧ A) ∨ (e = .returned (.bool false) ∧ B)) : ∃ v : Bool, e = .returned (.bool v) ∧ ((v = true ∧ A) ∨ (v = false ∧ B)) := by
  rcases h with ⟨h1, h2⟩ | ⟨h1, h2⟩
  · exact ⟨true, h1, .inl ⟨rfl, h2⟩⟩
  · exact ⟨false, h1, .inr ⟨rfl, h2⟩⟩
set_option maxRecDepth 100000 in
set_option maxHeartbeats 2000000 in
theorem cback_seq (m : Nat) (hm : 1 ≤ m) (bp bf b n : Nat) (r c a : Int) (w : World) (hb : bp < w.heap.size ∧ bf < w.heap.size) (hI : BackIt w bp bf b a) :
    SeqP Fence.wide m Try.prog 110 #[.pointer (some ⟨bp, 0, none⟩), .pointer (some ⟨bf, 0, none⟩)] (fun x : Int => #[Value.int .i64 x]) (fun _ => Keep2 bp bf) (fun _ => PlS b n r c) (fun ys => ys = backP n a) (fun pre => pre <+: backP n a) n 0 w := by
  intro l J Jx W hW hJ hJx hJp hY h0
  have hIW : BackIt W bp bf b a := ⟨(hW.block _ hb.1).trans hI.1, (hW.block _ hb.2).trans hI.2⟩
  have hS0 := hJp _ _ h0
  have hN := hS0.n
  have n1 := hN.most
  have n0 := hN.pos
  have HNN : Hid (cells r c = (n : Int)) := Lib.hid hS0.cells
  have c1 : W.cell? ⟨bp, 0, none⟩ = some (.pointer (some ⟨b, 0, none⟩)) := by simp [World.cell?, hIW.1]
  have HI := Lib.hid hIW
  have HN := Lib.hid hN
  have HJ := Lib.hid hJ
  have HJp := Lib.hid hJp
  have HY := Lib.hid hY
  have hbw : bp < W.heap.size ∧ bf < W.heap.size := ⟨Nat.lt_of_lt_of_le hb.1 hW.size, Nat.lt_of_lt_of_le hb.2 hW.size⟩
  clear hIW hI hN hS0 hY hW hJp
  refine callsIn_of_wp Try.func110 rfl trivial ?_ rfl
  simp only [Try.ntmps110, List.size_toArray, List.length_cons, List.length_nil, Nat.reduceAdd, Nat.reduceSub, Array.replicate_succ, Array.replicate_zero, List.push_toArray, List.append_toArray, List.nil_append, List.cons_append]
  gi_wp2_with (refine ⟨trivial, ?_⟩; gi_at_call 39; refine (callsIn_wide.2 (len_n HN.out)).mono ?_; rintro e w' ⟨rfl, rfl⟩)
  gi_loopw [7] (fun p wr => ∃ i : Nat, p = .int .i64 i ∧ i ≤ n ∧ J (cbK n a i) wr ∧ Keep2 bp bf W wr) (fun p _ => n - (intOf p).toNat)
  case atStart => exact ⟨0, rfl, by omega, h0, Keep2.refl _ _ _⟩
  case round =>
    obtain ⟨i, rfl, hi, hJi, hKi⟩ := hrel
    have HJi := Lib.hid hJi
    have HKi := Lib.hid hKi
    have HI2 := HI.out.keep hKi
    have d1 : wr.cell? ⟨bp, 0, none⟩ = some (.pointer (some ⟨b, 0, none⟩)) := by simp [World.cell?, HI2.1]
    have d2 : wr.cell? ⟨bf, 0, none⟩ = some (.int .i64 a) := by simp [World.cell?, HI2.2]
    clear hJi hKi c1 HI2
    by_cases hin : i < n
    · have hin' : (i : Int) < (n : Int) := by omega
      have HPD := Lib.hid (HJp.out _ _ HJi.out).drew
      obtain ⟨z, hz⟩ : ∃ z, z = mv n a (-(i : Int)) := ⟨_, rfl⟩
      have HZ := Lib.hid hz
      have hneg : IntKind.i64.wrap (-(i : Int)) = -(i : Int) := IntWalk.i64_in _ (by omega)
      have HPX : Hid (cbK n a i ++ [z] <+: backP n a) := Lib.hid (by rw [hz, ← cbK_succ]; exact cbK_prefix n a (by omega))
      have HLT : Hid ((cbK n a i).length < n) := Lib.hid (by rw [cbK_length]; exact hin)
      have d1d : wr.drew.cell? ⟨bp, 0, none⟩ = some (.pointer (some ⟨b, 0, none⟩)) := d1
      have d2d : wr.drew.cell? ⟨bf, 0, none⟩ = some (.int .i64 a) := d2
      clear hz
      gi_wp2_with fail
      refine wpIn_region_any (by kernel_rfl) ?_
      refine wpAnyIn_take (i := 0) (oi := { dst := some 10, op := Op.move (Operand.tmp 0), type := 49, pos := "caret.go:106", after := #[], guard := none }) (v := ?_) rfl rfl (by kernel_rfl) (by kernel_rfl) (by kernel_rfl) (fun _ _ _ h => h) ⟨Or.inl ⟨by rfl, ?_⟩, fun _ => rfl⟩ ?_
      rotate_left
      focus (intro w; go_simp; try (with_reducible rfl))
      try simp only [Act.put, List.setIfInBounds_toArray, List.set_cons_zero, List.set_cons_succ]
      refine wpAnyIn_take (i := 4) (oi := { dst := some 14, op := Op.move (Operand.tmp 4), type := 3, pos := "caret.go:106", after := #[], guard := none }) (v := ?_) rfl rfl (by kernel_rfl) (by kernel_rfl) (by kernel_rfl) (fun _ _ _ h => h) ⟨Or.inl ⟨by rfl, ?_⟩, fun _ => rfl⟩ ?_
      rotate_left
      focus (intro w; go_simp; try (with_reducible rfl))
      try simp only [Act.put, List.setIfInBounds_toArray, List.set_cons_zero, List.set_cons_succ]
      refine wpAnyIn_take (i := 5) (oi := { dst := some 15, op := Op.unOp UnOp.neg 3 (Operand.tmp 14), type := 3, pos := "caret.go:106", after := #[{ on := 4, ground := Ground.data }], guard := none }) (v := ?_) rfl rfl (by kernel_rfl) (by kernel_rfl) (by kernel_rfl) (fun _ _ _ h => h) ⟨Or.inl ⟨by rfl, ?_⟩, fun _ => rfl⟩ ?_
      rotate_left
      focus (intro w; go_simp; try (with_reducible rfl))
      try simp only [Act.put, List.setIfInBounds_toArray, List.set_cons_zero, List.set_cons_succ]
      refine wpAnyIn_ready (rs := [1, 3]) (by kernel_rfl) (by simp) (AllReadyIn.cons (o := { dst := some 11, op := Op.load 27 (Operand.tmp 1), type := 27, pos := "caret.go:106", after := #[], guard := none }) rfl (fun K hK => ?_) (AllReadyIn.cons (o := { dst := some 13, op := Op.load 3 (Operand.tmp 2), type := 3, pos := "caret.go:106", after := #[], guard := none }) rfl (fun K hK => ?_) AllReadyIn.nil))
      · go_simp
        refine hK _ _ ?_
        clear hK K
        try simp only [Act.put, List.setIfInBounds_toArray, List.set_cons_zero, List.set_cons_succ]
        refine wpAnyIn_ready (rs := [2, 3]) (by kernel_rfl) (by simp) (AllReadyIn.cons (o := { dst := some 12, op := Op.call { callee := Callee.value (Operand.func 68), args := #[Operand.tmp 11], argTypes := #[27] }, type := 23, pos := "caret.go:106", after := #[{ on := 1, ground := Ground.data }], guard := none }) rfl (fun K hK => ?_) (AllReadyIn.cons (o := { dst := some 13, op := Op.load 3 (Operand.tmp 2), type := 3, pos := "caret.go:106", after := #[], guard := none }) rfl (fun K hK => ?_) AllReadyIn.nil))
        · go_simp
          refine ⟨trivial, ?_⟩
          gi_at_call 68
          (with_reducible refine (callsIn_wide.2 (size_s HPD.out)).mono ?_)
          rintro e w1 ⟨rfl, hb1⟩
          have d2b := cell_later hb1 d2d
          have B1 := Lib.hid (below_undrew hb1)
          clear hb1
          refine hK _ _ ?_
          clear hK K
          try simp only [Act.put, List.setIfInBounds_toArray, List.set_cons_zero, List.set_cons_succ]
          refine wpAnyIn_ready (rs := [3]) (by kernel_rfl) (by simp) (AllReadyIn.cons (o := { dst := some 13, op := Op.load 3 (Operand.tmp 2), type := 3, pos := "caret.go:106", after := #[], guard := none }) rfl (fun K hK => ?_) AllReadyIn.nil)
          go_simp
          refine hK _ _ ?_
          clear hK K
          try simp only [Act.put, List.setIfInBounds_toArray, List.set_cons_zero, List.set_cons_succ]
          refine wpAnyIn_ready (rs := [6]) (by kernel_rfl) (by simp) (AllReadyIn.cons (o := { dst := some 16, op := Op.call { callee := Callee.value (Operand.func 69), args := #[Operand.tmp 12, Operand.tmp 13, Operand.tmp 15], argTypes := #[23, 3, 3] }, type := 3, pos := "caret.go:106", after := #[{ on := 2, ground := Ground.data }, { on := 3, ground := Ground.data }, { on := 5, ground := Ground.data }, { on := 2, ground := Ground.chain }], guard := none }) rfl (fun K hK => ?_) AllReadyIn.nil)
          go_simp
          refine ⟨trivial, ?_⟩
          gi_at_call 69
          (with_reducible refine (callsIn_wide.2 (move_any r c a _ n w1 HNN (by omega) (by omega))).mono ?_)
          rintro e w2 ⟨he, hb2⟩
          first | rw [hneg, ← HZ.out] at he | rw [← HZ.out] at he
          subst he
          have B2 := Lib.hid (B1.out.trans (hb2.mono B1.out.size))
          clear hb2
          refine hK _ _ ?_
          clear hK K
          try simp only [Act.put, List.setIfInBounds_toArray, List.set_cons_zero, List.set_cons_succ]
          refine wpAnyIn_ready (rs := [7]) (by kernel_rfl) (by simp) (AllReadyIn.cons (o := { dst := some 17, op := Op.call { callee := Callee.value (Operand.tmp 10), args := #[Operand.tmp 16], argTypes := #[3] }, type := 4, pos := "caret.go:106", after := #[{ on := 0, ground := Ground.data }, { on := 6, ground := Ground.data }, { on := 6, ground := Ground.chain }], guard := none }) rfl (fun K hK => ?_) AllReadyIn.nil)
          obtain ⟨fn, tmps, assign, body, hyy, hR⟩ := HY.out (cbK n a i) z w2 HPX.out (HJ.out _ _ _ none HJi.out (grown_of_below B2.out) (fun _ e => by cases e)) HLT.out (by have := HKi.out.1; have := B2.out.size; omega)
          go_simp
          refine hR.mono ?_
          rintro e W3 hE
          obtain ⟨v, rfl, hE'⟩ := yield_bool hE
          have HE := Lib.hid hE'
          clear hE hE' hR hyy
          refine hK _ _ ?_
          clear hK K
          try simp only [Act.put, List.setIfInBounds_toArray, List.set_cons_zero, List.set_cons_succ]
          refine wpAnyIn_ready (rs := [8]) (by kernel_rfl) (by simp) (AllReadyIn.cons (o := { dst := some 18, op := Op.unOp UnOp.not 4 (Operand.tmp 17), type := 4, pos := "caret.go:106", after := #[{ on := 7, ground := Ground.data }], guard := none }) rfl (fun K hK => ?_) AllReadyIn.nil)
          go_simp
          refine hK _ _ ?_
          clear hK K
          try simp only [Act.put, List.setIfInBounds_toArray, List.set_cons_zero, List.set_cons_succ]
          refine wpAnyIn_done (by kernel_rfl) ?_ _
          rcases HE.out with ⟨rfl, hJ3, hk3⟩ | ⟨rfl, hJx3, hk3⟩
          · have HJ3 := Lib.hid hJ3
            have HK3 := Lib.hid ((HKi.out.trans (Keep2.turn (S := fun _ => False) (Turn.of_below B2.out) (by have := HKi.out.1; omega) (by have := HKi.out.1; omega) (by simp) (by simp))).trans hk3)
            clear hJ3 hk3 HE
            gi_wp2
            go_roundw
            case rel => exact ⟨i + 1, rfl, by omega, by rw [cbK_succ, ← HZ.out]; exact HJ3.out, HK3.out⟩
            case measure => simp only [intOf]; omega
          · have HJ3 := Lib.hid hJx3
            clear hJx3 hk3 HE
            gi_wp2
            refine bodyPost_ret (results_none rfl _ _ _) rfl ?_
            exact ⟨⟨_, rfl⟩, .inr ⟨_, HPX.out, HJ3.out⟩⟩
        · go_simp
          refine hK _ _ ?_
          clear hK K
          try simp only [Act.put, List.setIfInBounds_toArray, List.set_cons_zero, List.set_cons_succ]
          refine wpAnyIn_ready (rs := [2]) (by kernel_rfl) (by simp) (AllReadyIn.cons (o := { dst := some 12, op := Op.call { callee := Callee.value (Operand.func 68), args := #[Operand.tmp 11], argTypes := #[27] }, type := 23, pos := "caret.go:106", after := #[{ on := 1, ground := Ground.data }], guard := none }) rfl (fun K hK => ?_) AllReadyIn.nil)
          go_simp
          refine ⟨trivial, ?_⟩
          gi_at_call 68
          (with_reducible refine (callsIn_wide.2 (size_s HPD.out)).mono ?_)
          rintro e w1 ⟨rfl, hb1⟩
          have d2b := cell_later hb1 d2d
          have B1 := Lib.hid (below_undrew hb1)
          clear hb1
          refine hK _ _ ?_
          clear hK K
          try simp only [Act.put, List.setIfInBounds_toArray, List.set_cons_zero, List.set_cons_succ]
          refine wpAnyIn_ready (rs := [6]) (by kernel_rfl) (by simp) (AllReadyIn.cons (o := { dst := some 16, op := Op.call { callee := Callee.value (Operand.func 69), args := #[Operand.tmp 12, Operand.tmp 13, Operand.tmp 15], argTypes := #[23, 3, 3] }, type := 3, pos := "caret.go:106", after := #[{ on := 2, ground := Ground.data }, { on := 3, ground := Ground.data }, { on := 5, ground := Ground.data }, { on := 2, ground := Ground.chain }], guard := none }) rfl (fun K hK => ?_) AllReadyIn.nil)
          go_simp
          refine ⟨trivial, ?_⟩
          gi_at_call 69
          (with_reducible refine (callsIn_wide.2 (move_any r c a _ n w1 HNN (by omega) (by omega))).mono ?_)
          rintro e w2 ⟨he, hb2⟩
          first | rw [hneg, ← HZ.out] at he | rw [← HZ.out] at he
          subst he
          have B2 := Lib.hid (B1.out.trans (hb2.mono B1.out.size))
          clear hb2
          refine hK _ _ ?_
          clear hK K
          try simp only [Act.put, List.setIfInBounds_toArray, List.set_cons_zero, List.set_cons_succ]
          refine wpAnyIn_ready (rs := [7]) (by kernel_rfl) (by simp) (AllReadyIn.cons (o := { dst := some 17, op := Op.call { callee := Callee.value (Operand.tmp 10), args := #[Operand.tmp 16], argTypes := #[3] }, type := 4, pos := "caret.go:106", after := #[{ on := 0, ground := Ground.data }, { on := 6, ground := Ground.data }, { on := 6, ground := Ground.chain }], guard := none }) rfl (fun K hK => ?_) AllReadyIn.nil)
          obtain ⟨fn, tmps, assign, body, hyy, hR⟩ := HY.out (cbK n a i) z w2 HPX.out (HJ.out _ _ _ none HJi.out (grown_of_below B2.out) (fun _ e => by cases e)) HLT.out (by have := HKi.out.1; have := B2.out.size; omega)
          go_simp
          refine hR.mono ?_
          rintro e W3 hE
          obtain ⟨v, rfl, hE'⟩ := yield_bool hE
          have HE := Lib.hid hE'
          clear hE hE' hR hyy
          refine hK _ _ ?_
          clear hK K
          try simp only [Act.put, List.setIfInBounds_toArray, List.set_cons_zero, List.set_cons_succ]
          refine wpAnyIn_ready (rs := [8]) (by kernel_rfl) (by simp) (AllReadyIn.cons (o := { dst := some 18, op := Op.unOp UnOp.not 4 (Operand.tmp 17), type := 4, pos := "caret.go:106", after := #[{ on := 7, ground := Ground.data }], guard := none }) rfl (fun K hK => ?_) AllReadyIn.nil)
          go_simp
          refine hK _ _ ?_
          clear hK K
          try simp only [Act.put, List.setIfInBounds_toArray, List.set_cons_zero, List.set_cons_succ]
          refine wpAnyIn_done (by kernel_rfl) ?_ _
          rcases HE.out with ⟨rfl, hJ3, hk3⟩ | ⟨rfl, hJx3, hk3⟩
          · have HJ3 := Lib.hid hJ3
            have HK3 := Lib.hid ((HKi.out.trans (Keep2.turn (S := fun _ => False) (Turn.of_below B2.out) (by have := HKi.out.1; omega) (by have := HKi.out.1; omega) (by simp) (by simp))).trans hk3)
            clear hJ3 hk3 HE
            gi_wp2
            go_roundw
            case rel => exact ⟨i + 1, rfl, by omega, by rw [cbK_succ, ← HZ.out]; exact HJ3.out, HK3.out⟩
            case measure => simp only [intOf]; omega
          · have HJ3 := Lib.hid hJx3
            clear hJx3 hk3 HE
            gi_wp2
            refine bodyPost_ret (results_none rfl _ _ _) rfl ?_
            exact ⟨⟨_, rfl⟩, .inr ⟨_, HPX.out, HJ3.out⟩⟩
      · go_simp
        refine hK _ _ ?_
        clear hK K
        try simp only [Act.put, List.setIfInBounds_toArray, List.set_cons_zero, List.set_cons_succ]
        refine wpAnyIn_ready (rs := [1]) (by kernel_rfl) (by simp) (AllReadyIn.cons (o := { dst := some 11, op := Op.load 27 (Operand.tmp 1), type := 27, pos := "caret.go:106", after := #[], guard := none }) rfl (fun K hK => ?_) AllReadyIn.nil)
        go_simp
        refine hK _ _ ?_
        clear hK K
        try simp only [Act.put, List.setIfInBounds_toArray, List.set_cons_zero, List.set_cons_succ]
        refine wpAnyIn_ready (rs := [2]) (by kernel_rfl) (by simp) (AllReadyIn.cons (o := { dst := some 12, op := Op.call { callee := Callee.value (Operand.func 68), args := #[Operand.tmp 11], argTypes := #[27] }, type := 23, pos := "caret.go:106", after := #[{ on := 1, ground := Ground.data }], guard := none }) rfl (fun K hK => ?_) AllReadyIn.nil)
        go_simp
        refine ⟨trivial, ?_⟩
        gi_at_call 68
        (with_reducible refine (callsIn_wide.2 (size_s HPD.out)).mono ?_)
        rintro e w1 ⟨rfl, hb1⟩
        have d2b := cell_later hb1 d2d
        have B1 := Lib.hid (below_undrew hb1)
        clear hb1
        refine hK _ _ ?_
        clear hK K
        try simp only [Act.put, List.setIfInBounds_toArray, List.set_cons_zero, List.set_cons_succ]
        refine wpAnyIn_ready (rs := [6]) (by kernel_rfl) (by simp) (AllReadyIn.cons (o := { dst := some 16, op := Op.call { callee := Callee.value (Operand.func 69), args := #[Operand.tmp 12, Operand.tmp 13, Operand.tmp 15], argTypes := #[23, 3, 3] }, type := 3, pos := "caret.go:106", after := #[{ on := 2, ground := Ground.data }, { on := 3, ground := Ground.data }, { on := 5, ground := Ground.data }, { on := 2, ground := Ground.chain }], guard := none }) rfl (fun K hK => ?_) AllReadyIn.nil)
        go_simp
        refine ⟨trivial, ?_⟩
        gi_at_call 69
        (with_reducible refine (callsIn_wide.2 (move_any r c a _ n w1 HNN (by omega) (by omega))).mono ?_)
        rintro e w2 ⟨he, hb2⟩
        first | rw [hneg, ← HZ.out] at he | rw [← HZ.out] at he
        subst he
        have B2 := Lib.hid (B1.out.trans (hb2.mono B1.out.size))
        clear hb2
        refine hK _ _ ?_
        clear hK K
        try simp only [Act.put, List.setIfInBounds_toArray, List.set_cons_zero, List.set_cons_succ]
        refine wpAnyIn_ready (rs := [7]) (by kernel_rfl) (by simp) (AllReadyIn.cons (o := { dst := some 17, op := Op.call { callee := Callee.value (Operand.tmp 10), args := #[Operand.tmp 16], argTypes := #[3] }, type := 4, pos := "caret.go:106", after := #[{ on := 0, ground := Ground.data }, { on := 6, ground := Ground.data }, { on := 6, ground := Ground.chain }], guard := none }) rfl (fun K hK => ?_) AllReadyIn.nil)
        obtain ⟨fn, tmps, assign, body, hyy, hR⟩ := HY.out (cbK n a i) z w2 HPX.out (HJ.out _ _ _ none HJi.out (grown_of_below B2.out) (fun _ e => by cases e)) HLT.out (by have := HKi.out.1; have := B2.out.size; omega)
        go_simp
        refine hR.mono ?_
        rintro e W3 hE
        obtain ⟨v, rfl, hE'⟩ := yield_bool hE
        have HE := Lib.hid hE'
        clear hE hE' hR hyy
        refine hK _ _ ?_
        clear hK K
        try simp only [Act.put, List.setIfInBounds_toArray, List.set_cons_zero, List.set_cons_succ]
        refine wpAnyIn_ready (rs := [8]) (by kernel_rfl) (by simp) (AllReadyIn.cons (o := { dst := some 18, op := Op.unOp UnOp.not 4 (Operand.tmp 17), type := 4, pos := "caret.go:106", after := #[{ on := 7, ground := Ground.data }], guard := none }) rfl (fun K hK => ?_) AllReadyIn.nil)
        go_simp
        refine hK _ _ ?_
        clear hK K
        try simp only [Act.put, List.setIfInBounds_toArray, List.set_cons_zero, List.set_cons_succ]
        refine wpAnyIn_done (by kernel_rfl) ?_ _
        rcases HE.out with ⟨rfl, hJ3, hk3⟩ | ⟨rfl, hJx3, hk3⟩
        · have HJ3 := Lib.hid hJ3
          have HK3 := Lib.hid ((HKi.out.trans (Keep2.turn (S := fun _ => False) (Turn.of_below B2.out) (by have := HKi.out.1; omega) (by have := HKi.out.1; omega) (by simp) (by simp))).trans hk3)
          clear hJ3 hk3 HE
          gi_wp2
          go_roundw
          case rel => exact ⟨i + 1, rfl, by omega, by rw [cbK_succ, ← HZ.out]; exact HJ3.out, HK3.out⟩
          case measure => simp only [intOf]; omega
        · have HJ3 := Lib.hid hJx3
          clear hJx3 hk3 HE
          gi_wp2
          refine bodyPost_ret (results_none rfl _ _ _) rfl ?_
          exact ⟨⟨_, rfl⟩, .inr ⟨_, HPX.out, HJ3.out⟩⟩
    · have hj : i = n := by omega
      have HJn := Lib.hid (show J (backP n a) wr by exact hj ▸ HJi.out)
      clear hj
      gi_wp2
      go_end0
      exact ⟨⟨_, rfl⟩, .inl ⟨_, rfl, HJn.out⟩⟩
end Go.Proofs.Ytlcjiffnmpkndaa.Pl
