/-
  A field's places; the first of places that is an attribute's; the attribute ahead of a place and behind it.
-/
import Derived.Test.YtlcjiffnmpkndaaFlA
namespace Go.Proofs.Ytlcjiffnmpkndaa.Pl
open Go.RowKit Go.Shelf Base
attribute [local go_sem] Oper.semAt_some
set_option linter.unusedVariables false
set_option linter.unusedSimpArgs false

/-- A field, plainly. -/
structure Fd where
  s : Int
  k : Int
  a : Int
deriving DecidableEq
abbrev Fd.val (f : Fd) : Value := .agg #[.int .i64 f.s, .int .i64 f.k, .int .u8 f.a]
def placesL (n : Nat) (s k : Int) : List Int := if inL n s then first n (s + 1) k.toNat else []
def PlcIt (W : World) (bp bf b : Nat) (f : Fd) : Prop := W.heap[bp]? = some (.cells #[.pointer (some ⟨b, 0, none⟩)] 27 (0, 0)) ∧ W.heap[bf]? = some (.cells #[.int .i64 f.s, .int .i64 f.k, .int .u8 f.a] 74 (0, 0))
theorem PlcIt.keep {W W' : World} {bp bf b : Nat} {f : Fd} (h : PlcIt W bp bf b f) (k : Keep2 bp bf W W') : PlcIt W' bp bf b f := ⟨k.2.1.trans h.1, k.2.2.trans h.2⟩
theorem places_any (w : World) (b : Nat) (f : Fd) : Calls Try.prog 124 #[.pointer (some ⟨b, 0, none⟩), f.val] w fun e W =>
    e = .returned (.func (.func 144) #[] #[.pointer (some ⟨w.heap.size, 0, none⟩), .pointer (some ⟨w.heap.size + 1, 0, none⟩)]) ∧ PlcIt W w.heap.size (w.heap.size + 1) b f ∧ Below w.heap.size w W ∧ W.heap.size = w.heap.size + 2 := by
  go_enter Try.func124, Try.ntmps124
  go_wp2
  go_ret
  have e0 := heap_alloc_new w (.cells #[.pointer (some ⟨b, 0, none⟩)] 27)
  have e1 := heap_alloc_new (w.alloc (.cells #[.pointer (some ⟨b, 0, none⟩)] 27)) (.cells #[.int .i64 f.s, .int .i64 f.k, .int .u8 f.a] 74)
  simp only [World.size_alloc] at e1
  refine ⟨rfl, ⟨?_, e1⟩, (below_alloc w _).alloc (by simp) _, by simp⟩
  rw [Below.heap_alloc _ _ _ (by simp)]; exact e0
theorem rem_step (n : Nat) (s : Int) (i : Nat) (x : Int) (n0 : 1 ≤ n) (hx : x = step n s i) : (x + 1).tmod n = step n (s + 1) i := by
  have hb := step_bd n s i (by omega)
  rw [Int.tmod_eq_emod_of_nonneg (by omega), hx]
  unfold step
  rw [Int.emod_add_emod]; congr 1; omega
theorem step_shift (n : Nat) (s : Int) (i : Nat) : step n (s + 1) i = step n s (i + 1) := by unfold step; congr 1; push_cast; omega
set_option maxRecDepth 100000 in
set_option maxHeartbeats 1000000 in
theorem places_seq (m : Nat) (hm : 1 ≤ m) (bp bf b n : Nat) (f : Fd) (hk : f.k ≤ 9223372036854775807) (w : World) (hb : bp < w.heap.size ∧ bf < w.heap.size) (hI : PlcIt w bp bf b f) :
    SeqP Fence.wide m Try.prog 144 #[.pointer (some ⟨bp, 0, none⟩), .pointer (some ⟨bf, 0, none⟩)] (fun x : Int => #[Value.int .i64 x]) (fun _ => Keep2 bp bf) (fun _ => PlN b n) (fun ys => ys = placesL n f.s f.k) (fun pre => pre <+: placesL n f.s f.k) (placesL n f.s f.k).length 0 w := by
  intro l J Jx W hW hJ hJx hJp hY h0
  have hIW : PlcIt W bp bf b f := ⟨(hW.block _ hb.1).trans hI.1, (hW.block _ hb.2).trans hI.2⟩
  have hN := hJp _ _ h0
  have n1 := hN.most
  have n0 := hN.pos
  have c1 : W.cell? ⟨bp, 0, none⟩ = some (.pointer (some ⟨b, 0, none⟩)) := by simp [World.cell?, hIW.1]
  have c2 : W.cell? ⟨bf, 0, none⟩ = some (.int .i64 f.s) := by simp [World.cell?, hIW.2]
  have c3 : W.cell? ⟨bf, 1, none⟩ = some (.int .i64 f.k) := by simp [World.cell?, hIW.2]
  have HI := Lib.hid hIW
  have HN := Lib.hid hN
  have HJ := Lib.hid hJ
  have HJp := Lib.hid hJp
  have hbw : bp < W.heap.size ∧ bf < W.heap.size := ⟨Nat.lt_of_lt_of_le hb.1 hW.size, Nat.lt_of_lt_of_le hb.2 hW.size⟩
  clear hIW hI hN
  obtain ⟨s, k, a⟩ := f
  simp only at c2 c3 hY hk ⊢
  refine callsIn_of_wp Try.func144 rfl trivial ?_ rfl
  simp only [Try.ntmps144, List.size_toArray, List.length_cons, List.length_nil, Nat.reduceAdd, Nat.reduceSub, Array.replicate_succ, Array.replicate_zero, List.push_toArray, List.append_toArray, List.nil_append, List.cons_append]
  cases hin : inL n s with
  | false =>
    gi_wp2_with (refine ⟨trivial, ?_⟩; gi_at_call 80; refine (callsIn_wide.2 (fhas_any HN.out s)).mono ?_; rintro e w' ⟨rfl, rfl⟩; rw [hin])
    refine bodyPost_ret (results_none rfl _ _ _) rfl ?_
    exact ⟨⟨_, rfl⟩, .inl ⟨[], by unfold placesL; rw [hin]; rfl, h0⟩⟩
  | true =>
    have hin' := of_decide_eq_true hin
    obtain ⟨s0, s1⟩ := hin'
    have hL : placesL n s k = first n (s + 1) k.toNat := by unfold placesL; rw [if_pos hin]
    rw [hL, first_length] at hY
    have HL := Lib.hid hL
    have HY := Lib.hid hY
    have HIN := Lib.hid hin
    clear hL hY hin hW
    gi_wp2_with (refine ⟨trivial, ?_⟩; gi_at_call 80; refine (callsIn_wide.2 (fhas_any HN.out s)).mono ?_; rintro e w' ⟨rfl, rfl⟩; rw [HIN.out])
    gi_loopw [4, 14] (fun p q wr => ∃ (x y : Int) (i : Nat), p = .int .i64 x ∧ q = .int .i64 y ∧ Hid (x = step n s i) ∧ Hid (y = i) ∧ 0 ≤ x ∧ x < n ∧ 0 ≤ y ∧ (y ≤ k ∨ y = 0) ∧ J (first n (s + 1) i) wr ∧ Keep2 bp bf W wr) (fun _ q _ => (k - intOf q).toNat)
    case atStart =>
      exact ⟨s, 0, 0, rfl, rfl, Lib.hid (step_zero n s s0 s1).symm, Lib.hid rfl, s0, s1, by omega, by omega, h0, Keep2.refl _ _ _⟩
    case round =>
      obtain ⟨x, y, i, rfl, rfl, hx, hy, x0, x1, y0, y1, hJi, hKi⟩ := hrel
      have HJi := Lib.hid hJi
      have HKi := Lib.hid hKi
      clear hJi hKi
      by_cases hyk : y < k
      · have hlt : (first n (s + 1) i).length < k.toNat := by rw [first_length]; have := hy.out; omega
        obtain ⟨z, hz⟩ : ∃ z, z = step n (s + 1) i := ⟨_, rfl⟩
        have hzb := step_bd n (s + 1) i (by omega)
        rw [← hz] at hzb
        obtain ⟨z0, z1⟩ := hzb
        have hx' : first n (s + 1) i ++ [z] = first n (s + 1) (i + 1) := by rw [first_succ, hz]
        obtain ⟨fn, tmps, assign, body, hyy, hR⟩ := HY.out (first n (s + 1) i) z wr (by rw [hx', first_prefix n (s + 1) (i + 1) k.toNat (by have := hy.out; omega)]; exact List.take_prefix _ _) HJi.out hlt (by have := HKi.out.1; omega)
        rw [hx'] at hR
        have hrem : (x + 1).tmod n = z := by rw [hz]; exact rem_step n s i x n0 hx.out
        have HZ := Lib.hid hz
        have HI2 := Lib.hid (HI.out.keep HKi.out)
        have d1 : wr.cell? ⟨bp, 0, none⟩ = some (.pointer (some ⟨b, 0, none⟩)) := by simp [World.cell?, HI2.out.1]
        have n2 : (n : Int) ≤ 4096 := by omega
        have n3 : (1 : Int) ≤ n := by omega
        have hk2 : y + 1 ≤ 9223372036854775807 := by omega
        clear hlt hx' hz c1 c2 c3
        gi_wp2_with (refine ⟨trivial, ?_⟩; gi_at_call 39; refine (callsIn_wide.2 (len_n (HJp.out _ _ HJi.out))).mono ?_; rintro e w' ⟨rfl, rfl⟩)
        refine hR.mono ?_
        rintro e W3 (⟨rfl, hJ3, hk3⟩ | ⟨rfl, hJx3, hk3⟩)
        · have HJ3 := Lib.hid hJ3
          have HK3 := Lib.hid (HKi.out.trans hk3)
          clear hJ3 hk3
          gi_wp2
          go_roundw
          case rel => exact ⟨z, y + 1, i + 1, rfl, rfl, Lib.hid (by rw [HZ.out]; exact step_shift n s i), Lib.hid (by have := hy.out; omega), z0, z1, by omega, by omega, HJ3.out, HK3.out⟩
          case measure => simp only [intOf]; omega
        · have HJ3 := Lib.hid hJx3
          clear hJx3 hk3
          gi_wp2
          refine bodyPost_ret (results_none rfl _ _ _) rfl ?_
          refine ⟨⟨_, rfl⟩, .inr ⟨_, ?_, HJ3.out⟩⟩
          have := hy.out
          rw [HL.out, first_prefix n (s + 1) (i + 1) k.toNat (by omega)]; exact List.take_prefix _ _
      · have hj : i = k.toNat := by have := hy.out; omega
        have HJn := Lib.hid (show J (placesL n s k) wr by rw [HL.out]; exact hj ▸ HJi.out)
        clear hj
        gi_wp2
        go_end0
        exact ⟨⟨_, rfl⟩, .inl HJn.out⟩

theorem results_cell_int {fn : Func} {p : Tmp} (h : fn.results = #[.cell p 3]) (tmps : Array Value) (w : World) (g : Nat) (x : Int) (fr : Nat × Nat)
    (hp : tmps.getD p undef = .pointer (some ⟨g, 0, none⟩)) (hg : w.heap[g]? = some (.cells #[.int .i64 x] 3 fr)) : (results fn tmps).run Try.prog w = .ok (.int .i64 x) w := by
  have hp' : tmps[p]?.getD undef = .pointer (some ⟨g, 0, none⟩) := by simpa using hp
  have hc : w.cell? ⟨g, 0, none⟩ = some (.int .i64 x) := by simp [World.cell?, hg]
  simp [results, h, hp', asAddr, go_sem, hc]
theorem cell_byte (yb : Int) (yg ys : Bool) (yl yc : Int) (w : World) : (Instr.field 58 (.agg #[.int .u8 yb, .bool yg, .bool ys, .int .u8 yl, .int .u8 yc]) 0).run Try.prog w = .ok (.int .u8 yb) w := by kernel_rfl
theorem cell_start (yb : Int) (yg ys : Bool) (yl yc : Int) (w : World) : (Instr.field 58 (.agg #[.int .u8 yb, .bool yg, .bool ys, .int .u8 yl, .int .u8 yc]) 2).run Try.prog w = .ok (.bool ys) w := by kernel_rfl
/-! ### The first attribute of places -/
def firstL (L : List Cl) (xs : List Int) : Int := ((xs.find? fun p => (atL L p).st).getD (-1))
structure SI (w : World) (b g : Nat) (r c cur : Int) (L : List Cl) (pre : List Int) (W : World) : Prop where
  pl : PlAt W b g r c cur L
  b0 : W.heap[w.heap.size]? = some (.cells #[.pointer (some ⟨b, 0, none⟩)] 27 (0, 0))
  b1 : W.heap[w.heap.size + 1]? = some (.cells #[.int .i64 0] 3 (0, 0))
  tn : Turn (fun _ => False) w W
  no : ∀ y ∈ pre, (atL L y).st = false
/-- Where it was broken off: the place stands in the result's cell. -/
structure SX (w : World) (L : List Cl) (pre : List Int) (W : World) : Prop where
  hit : ∃ pre' x, pre = pre' ++ [x] ∧ (∀ y ∈ pre', (atL L y).st = false) ∧ (atL L x).st = true ∧ W.heap[w.heap.size + 1]? = some (.cells #[.int .i64 x] 3 (0, 0))
  tn : Turn (fun _ => False) w W
section
variable {w : World} {b g : Nat} {r c cur : Int} {L : List Cl} {pre : List Int} {W W' : World}
theorem SI.own (B : Nat) (hB : w.heap.size ≤ B) : OwnFrom B (SI w b g r c cur L) := by
  intro s X Y row h hg hr
  have hr' : ∀ r, row = some r → ∃ o : Obj, X.heap[r]? = some o ∧ o.isCells = false := fun r e => (hr r e).2
  exact ⟨h.pl.grown hg hr', (cells_kept h.b0 hg hr').trans h.b0, (cells_kept h.b1 hg hr').trans h.b1, h.tn.grown hg (fun k e => .inl (by have := (hr k e).1; omega)), h.no⟩
theorem SX.own (B : Nat) (hB : w.heap.size ≤ B) : OwnFrom B (SX w L) := by
  intro s X Y row h hg hr
  have hr' : ∀ r, row = some r → ∃ o : Obj, X.heap[r]? = some o ∧ o.isCells = false := fun r e => (hr r e).2
  obtain ⟨⟨p, x, h1, h2, h3, h4⟩, h5⟩ := h
  exact ⟨⟨p, x, h1, h2, h3, (cells_kept h4 hg hr').trans h4⟩, h5.grown hg (fun k e => .inl (by have := (hr k e).1; omega))⟩
end
theorem find_hit {L : List Cl} {xs pre : List Int} {x : Int} (hp : pre ++ [x] <+: xs) (hno : ∀ y ∈ pre, (atL L y).st = false) (hx : (atL L x).st = true) : firstL L xs = x := by
  obtain ⟨t, rfl⟩ := hp
  unfold firstL
  rw [List.append_assoc, List.find?_append, List.find?_eq_none.2 (fun y hy => by simp [hno y hy])]
  simp [List.find?, hx]
theorem find_none {L : List Cl} {xs : List Int} (hno : ∀ y ∈ xs, (atL L y).st = false) : firstL L xs = -1 := by
  unfold firstL
  rw [List.find?_eq_none.2 (fun y hy => by simp [hno y hy])]; rfl
set_option maxRecDepth 100000 in
set_option maxHeartbeats 2000000 in
theorem first_any {w : World} {b g : Nat} {r c cur : Int} {L : List Cl} (h : PlAt w b g r c cur L) {gf : Nat} {lb : Array Value} {xs : List Int} {p q N : Nat} (eg : ∀ args w, (callFunc gf args).run Try.prog w = .ok (.enter gf args) w) (hpq : p < w.heap.size ∧ q < w.heap.size)
    (hseq : SeqP Fence.wide 2 Try.prog gf lb (fun x : Int => #[Value.int .i64 x]) (fun _ => Keep2 p q) (fun _ => PlN b L.length) (fun ys => ys = xs) (fun pre => pre <+: xs) N 0 w) :
    CallsIn Fence.wide 3 Try.prog 108 #[.pointer (some ⟨b, 0, none⟩), .func (.func gf) #[] lb] w fun e W => e = .returned (.int .i64 (firstL L xs)) ∧ Below w.heap.size w W := by
  obtain ⟨W0, hW0⟩ : ∃ W0, W0 = (w.alloc (.cells #[.pointer (some ⟨b, 0, none⟩)] 27)).alloc (.cells #[.int .i64 0] 3) := ⟨_, rfl⟩
  have h0 : SI w b g r c cur L [] W0 := by
    rw [hW0]
    have e0 := heap_alloc_new w (.cells #[.pointer (some ⟨b, 0, none⟩)] 27)
    have e1 := heap_alloc_new (w.alloc (.cells #[.pointer (some ⟨b, 0, none⟩)] 27)) (.cells #[.int .i64 0] 3)
    simp only [World.size_alloc] at e1
    refine ⟨(h.alloc _).alloc _, ?_, e1, ?_, by simp⟩
    · rw [Below.heap_alloc _ _ _ (by simp)]; exact e0
    · exact Turn.of_below ((below_alloc w _).alloc (by simp) _)
  have hsz0 : W0.heap.size = w.heap.size + 2 := by rw [hW0]; simp
  have hbw : Below w.heap.size w W0 := by rw [hW0]; exact (below_alloc w _).alloc (by simp) _
  have HW0 := Lib.hid hW0.symm
  have H0 := Lib.hid h0
  have HS := Lib.hid hseq
  clear hW0 h h0 hseq
  refine callsIn_of_wp_marks Try.func108 rfl trivial ?_ rfl
  simp only [Try.ntmps108, List.size_toArray, List.length_cons, List.length_nil, Nat.reduceAdd, Nat.reduceSub, Array.replicate_succ, Array.replicate_zero, List.push_toArray, List.append_toArray, List.nil_append, List.cons_append]
  gi_wp2_with fail
  rw [HW0.out]
  gi_wp2_with fail
  refine range_ask (α := Int) rfl (by omega) (gf := gf) rfl trivial eg HS.out Keep2.trans ?hKb hbw (fun _ => rfl)
    (SI w b g r c cur L) (fun _ W h => h.pl.n) (fun c' pre W => c' = .ret ∧ SX w L pre W) (SI.own _ (by omega)) (fun c' s X Y row h hg hr => ⟨h.1, SX.own _ (by omega) s X Y row h.2 hg hr⟩) H0.out
    (fun p a' _ => a' = { tmps := #[.pointer (some ⟨b, 0, none⟩), .func (.func gf) #[] lb, .pointer (some ⟨w.heap.size, 0, none⟩), undef, .pointer (some ⟨w.heap.size + 1, 0, none⟩), .int .i64 p, .func (.func gf) #[] lb, .int .i64 p, undef, undef, undef, undef, undef], defers := [] })
    (fun _ _ _ _ _ _ h _ _ => h) ?assign ?body ?done ?stop
  case hKb =>
    intro W o o' ho hc
    have := lt_of_block ho
    exact Keep2.put W o' (by omega) (by omega) (by omega) (by omega)
  case assign =>
    intro l pre p W K hsp hWs hI' hK
    gi_wp2
    exact hK _ _ (KeepsFrom.refl _ _) (Keep2.refl _ _ _) hI' rfl
  case body =>
    rintro l pre x a' W hsp hI' rfl hlt hWs
    clear hsp
    rw [Nat.add_zero] at hWs
    have q0 : W.cell? ⟨w.heap.size, 0, none⟩ = some (.pointer (some ⟨b, 0, none⟩)) := by simp [World.cell?, hI'.b0]
    have HI' := Lib.hid hI'
    clear hI' hlt
    gi_wp2_with fail
    refine ⟨trivial, ?_⟩
    refine (CallsIn.inRound l (callsIn_wide.2 (at_any HI'.out.pl x))).mono ?_
    rintro e W3 ⟨he, hb3⟩
    obtain ⟨y, hy⟩ : ∃ y, y = atL L x := ⟨_, rfl⟩
    rw [← hy] at he
    obtain ⟨yb, yg, yst, yl, yc⟩ := y
    have HY := Lib.hid hy
    clear hy
    simp only [Cl.val] at he
    subst he
    have hcs := cell_start yb yg yst yl yc
    have hI3 := SI.own W.heap.size (by have := HI'.out.tn.size; omega) pre W W3 none HI'.out (grown_of_below hb3) (fun _ e => by cases e)
    have HI3 := Lib.hid hI3
    have r2 : W3.cell? ⟨w.heap.size + 1, 0, none⟩ = some (.int .i64 0) := by simp [World.cell?, hI3.b1]
    have r3 : W3.frozen? ⟨w.heap.size + 1, 0, none⟩ = false := by simp [World.frozen?, hI3.b1]
    have hb3s := hb3.size
    have KB := Lib.hid hb3
    clear hI3 hb3 q0
    cases yst with
    | true =>
      have HST := Lib.hid (show (atL L x).st = true by rw [← HY.out])
      gi_wp2
      have ts := turn_set W3 (w.heap.size + 1) 0 (.int .i64 x)
      have t3 : Turn (At (w.heap.size + 1)) W W3 := Turn.of_below KB.out
      refine ⟨keeps_of_turn (t3.trans ts) (fun k hk => by unfold At at hk; omega), rfl, ⟨⟨pre, x, rfl, HI'.out.no, HST.out, ?_⟩, ?_⟩⟩
      · rw [heap_set HI3.out.b1 0 _]; simp
      · have ht2 : Turn (fun k => w.heap.size ≤ k) w (W3.setCell ⟨w.heap.size + 1, 0, none⟩ (.int .i64 x)) := (HI3.out.tn.mono fun k hk => hk.elim).trans (ts.mono fun k hk => by rw [show k = w.heap.size + 1 from hk]; omega)
        exact ⟨ht2.os, ht2.tape, ht2.output, ht2.size, fun k hk hn => ht2.block k hk (by omega)⟩
    | false =>
      have HST := Lib.hid (show (atL L x).st = false by rw [← HY.out])
      gi_wp2
      refine ⟨keepsB KB.out, Keep2.turn (S := fun _ => False) (Turn.of_below KB.out) (by omega) (by omega) (by simp) (by simp), ⟨HI3.out.pl, HI3.out.b0, HI3.out.b1, HI3.out.tn, ?_⟩⟩
      intro y hy
      rcases List.mem_append.1 hy with hy | hy
      · exact HI'.out.no y hy
      · obtain rfl : y = x := by simpa using hy
        exact HST.out
  case done =>
    rintro D ys W hD rfl hI' hK
    have r2 : W.cell? ⟨w.heap.size + 1, 0, none⟩ = some (.int .i64 0) := by simp [World.cell?, hI'.b1]
    have r3 : W.frozen? ⟨w.heap.size + 1, 0, none⟩ = false := by simp [World.frozen?, hI'.b1]
    have HI' := Lib.hid hI'
    clear hI'
    gi_wp2
    refine ⟨by simp, .inl ⟨_, _, rfl, run_takeDeferred (by rw [Below.heap_setCell _ _ _ _ (by show D ≠ w.heap.size + 1; omega)]; exact hK), ?_⟩⟩
    refine ⟨_, results_cell_int rfl _ _ (w.heap.size + 1) (-1) (0, 0) rfl ?_, ?_⟩
    · rw [World.putObj_heap_other (by omega), heap_set HI'.out.b1 0 _]; simp
    · refine ⟨by rw [find_none HI'.out.no], ?_⟩
      have ts := turn_set W (w.heap.size + 1) 0 (.int .i64 (-1))
      have t2 : Turn (fun k => w.heap.size ≤ k) w (W.setCell ⟨w.heap.size + 1, 0, none⟩ (.int .i64 (-1))) := (HI'.out.tn.mono fun k hk => hk.elim).trans (ts.mono fun k hk => by rw [show k = w.heap.size + 1 from hk]; omega)
      have t3 := t2.grown (grownBy_putObj' _ D (.deferred none)) (fun k e => by cases e; left; omega)
      exact t3.below (Nat.le_refl _) (fun k hk => hk)
  case stop =>
    rintro D c' pre W hD hpre ⟨rfl, hx⟩ hK
    have HX := Lib.hid hx
    clear hx
    gi_wp2
    obtain ⟨⟨pre', x, rfl, h1, h2, h3⟩, h4⟩ := HX.out
    refine ⟨by simp, .inl ⟨_, _, rfl, run_takeDeferred hK, ?_⟩⟩
    refine ⟨_, results_cell_int rfl _ _ (w.heap.size + 1) x (0, 0) rfl ?_, ?_⟩
    · rw [World.putObj_heap_other (by omega)]; exact h3
    · refine ⟨by rw [find_hit hpre h1 h2], ?_⟩
      have t3 := h4.grown (grownBy_putObj' _ D (.deferred none)) (fun k e => by cases e; left; omega)
      exact t3.below (Nat.le_refl _) (fun k hk => hk.elim)
end Go.Proofs.Ytlcjiffnmpkndaa.Pl
