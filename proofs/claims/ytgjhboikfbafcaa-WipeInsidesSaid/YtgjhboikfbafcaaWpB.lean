/-
  Inside of package wipe.
-/
import Derived.Test.YtgjhboikfbafcaaWpA
import Derived.Test.YtgjhboikfbafcaaInRnd
namespace Go.Proofs.Ytgjhboikfbafcaa.Pl
open Go.RowKit Go.Shelf Base
attribute [local go_sem] Oper.semAt_some
set_option linter.unusedVariables false
set_option linter.unusedSimpArgs false

structure InI (w : World) (b g : Nat) (r c cur : Int) (L : List Cl) (f : Fd) (n : Nat) (pre : List Int) (W : World) : Prop where
  pl : PlAt W b g r c cur (fillL L pre c0)
  bp : W.heap[w.heap.size]? = some (.cells #[.pointer (some ⟨b, 0, none⟩)] 26 (0, 0))
  bn : W.heap[w.heap.size + 2]? = some (.cells #[.int .i64 (pre.length : Nat)] 3 (0, 0))
  it : PlcIt W (w.heap.size + 3) (w.heap.size + 4) b f
  tn : Turn (At g) w W
  le : pre.length ≤ n
section
variable {w : World} {b g : Nat} {r c cur : Int} {L : List Cl} {f : Fd} {n : Nat} {pre : List Int} {W W' : World}
theorem InI.own (B : Nat) (hB : w.heap.size ≤ B) : OwnFrom B (InI w b g r c cur L f n) := by
  intro s X Y row h hg hr
  have hr' : ∀ r, row = some r → ∃ o : Obj, X.heap[r]? = some o ∧ o.isCells = false := fun r e => (hr r e).2
  exact ⟨h.pl.grown hg hr', (cells_kept h.bp hg hr').trans h.bp, (cells_kept h.bn hg hr').trans h.bn, ⟨(cells_kept h.it.1 hg hr').trans h.it.1, (cells_kept h.it.2 hg hr').trans h.it.2⟩, h.tn.grown hg (fun k e => .inl (by have := (hr k e).1; omega)), h.le⟩
theorem InI.drew (h : InI w b g r c cur L f n pre W) : InI w b g r c cur L f n pre W.drew :=
  ⟨h.pl.drew, h.bp, h.bn, h.it, ⟨h.tn.os, h.tn.tape, h.tn.output, h.tn.size, h.tn.block⟩, h.le⟩
theorem InI.next (h : InI w b g r c cur L f n pre W) (hgl : b < w.heap.size ∧ g < w.heap.size) (hlt : pre.length < n) (x : Int) {W3 : World} (hp : PlAt W3 b g r c cur (setL (fillL L pre c0) x c0)) (t : Turn (At g) W W3) :
    InI w b g r c cur L f n (pre ++ [x]) (W3.setCell ⟨w.heap.size + 2, 0, none⟩ (.int .i64 (((pre.length : Nat) : Int) + 1))) ∧ Keep2 (w.heap.size + 3) (w.heap.size + 4) W (W3.setCell ⟨w.heap.size + 2, 0, none⟩ (.int .i64 (((pre.length : Nat) : Int) + 1))) ∧ (∀ D, w.heap.size + 3 ≤ D → KeepsFrom D W (W3.setCell ⟨w.heap.size + 2, 0, none⟩ (.int .i64 (((pre.length : Nat) : Int) + 1)))) ∧ W3.cell? ⟨w.heap.size + 2, 0, none⟩ = some (.int .i64 (pre.length : Nat)) ∧ W3.frozen? ⟨w.heap.size + 2, 0, none⟩ = false := by
  obtain ⟨g1, g2⟩ := hgl
  have l4 := lt_of_block h.it.1
  have l5 := lt_of_block h.it.2
  have b3 : W3.heap[w.heap.size + 2]? = some (.cells #[.int .i64 (pre.length : Nat)] 3 (0, 0)) := (t.block _ (lt_of_block h.bn) (by unfold At; omega)).trans h.bn
  have ts := turn_set W3 (w.heap.size + 2) 0 (.int .i64 (((pre.length : Nat) : Int) + 1))
  have t2 : Turn (fun k => k = g ∨ k = w.heap.size + 2) W (W3.setCell ⟨w.heap.size + 2, 0, none⟩ (.int .i64 (((pre.length : Nat) : Int) + 1))) := (t.mono fun k hk => .inl hk).trans (ts.mono fun k hk => .inr hk)
  have k2 : Keep2 (w.heap.size + 3) (w.heap.size + 4) W (W3.setCell ⟨w.heap.size + 2, 0, none⟩ (.int .i64 (((pre.length : Nat) : Int) + 1))) := Keep2.turn t2 l4 l5 (by omega) (by omega)
  refine ⟨⟨?_, ?_, ?_, h.it.keep k2, ?_, ?_⟩, k2, ?_, by simp [World.cell?, b3], by simp [World.frozen?, b3]⟩
  · rw [fillL_snoc]
    exact hp.turn ts (by unfold At; omega) (by unfold At; omega)
  · exact (t2.block _ (lt_of_block h.bp) (by omega)).trans h.bp
  · rw [heap_set b3 0 _]; simp
  · have t' : Turn (fun k => k = g ∨ k = w.heap.size + 2) w (W3.setCell ⟨w.heap.size + 2, 0, none⟩ (.int .i64 (((pre.length : Nat) : Int) + 1))) := (h.tn.mono fun k hk => .inl hk).trans t2
    exact ⟨t'.os, t'.tape, t'.output, t'.size, fun k hk hn => t'.block k hk (fun e => by rcases e with e | e; exact hn e; omega)⟩
  · simp; omega
  · intro D hD
    exact keeps_of_turn t2 (fun k hk => by rcases hk with hk | hk <;> omega)
end
/-- The places that Inside lets go. -/
def insP (n : Nat) (f : Fd) : List Int := (placesL n f.s f.k).take n
set_option maxRecDepth 100000 in
set_option maxHeartbeats 2000000 in
theorem inside_in {w : World} {b g : Nat} {r c cur : Int} {L : List Cl} (h : PlAt w b g r c cur L) (f : Fd) (hk : f.k ≤ 9223372036854775807) :
    CallsIn Fence.wide 3 Try.prog 43 #[.pointer (some ⟨b, 0, none⟩), f.val] w fun e W => e = .returned (.int .i64 ((insP L.length f).length : Nat)) ∧ PlAt W b g r c cur (fillL L (insP L.length f) c0) ∧ Turn (At g) w W := by
  obtain ⟨W0, hW0⟩ : ∃ W0, W0 = ((w.alloc (.cells #[.pointer (some ⟨b, 0, none⟩)] 26)).alloc (.cells #[.int .i64 f.s, .int .i64 f.k, .int .u8 f.a] 39)).alloc (.cells #[.int .i64 0] 3) := ⟨_, rfl⟩
  have hbl : Below w.heap.size w W0 := by rw [hW0]; exact ((below_alloc w _).alloc (by simp) _).alloc (by simp; omega) _
  have hsz0 : W0.heap.size = w.heap.size + 3 := by rw [hW0]; simp
  have hP0 := h.below hbl
  have e0 : W0.heap[w.heap.size]? = some (.cells #[.pointer (some ⟨b, 0, none⟩)] 26 (0, 0)) := by
    rw [hW0, Below.heap_alloc _ _ _ (by simp; omega), Below.heap_alloc _ _ _ (by simp)]; exact heap_alloc_new w _
  have e1 : W0.heap[w.heap.size + 1]? = some (.cells #[.int .i64 f.s, .int .i64 f.k, .int .u8 f.a] 39 (0, 0)) := by
    have := heap_alloc_new (w.alloc (.cells #[.pointer (some ⟨b, 0, none⟩)] 26)) (.cells #[.int .i64 f.s, .int .i64 f.k, .int .u8 f.a] 39)
    simp only [World.size_alloc] at this
    rw [hW0, Below.heap_alloc _ _ _ (by simp)]; exact this
  have e3 : W0.heap[w.heap.size + 2]? = some (.cells #[.int .i64 0] 3 (0, 0)) := by
    have := heap_alloc_new ((w.alloc (.cells #[.pointer (some ⟨b, 0, none⟩)] 26)).alloc (.cells #[.int .i64 f.s, .int .i64 f.k, .int .u8 f.a] 39)) (.cells #[.int .i64 0] 3)
    simp only [World.size_alloc] at this
    rw [hW0]; exact this
  have q0 : W0.cell? ⟨w.heap.size, 0, none⟩ = some (.pointer (some ⟨b, 0, none⟩)) := by simp [World.cell?, e0]
  have q1 : W0.cell? ⟨w.heap.size + 1, 0, none⟩ = some (.int .i64 f.s) := by simp [World.cell?, e1]
  have q2 : W0.cell? ⟨w.heap.size + 1, 1, none⟩ = some (.int .i64 f.k) := by simp [World.cell?, e1]
  have q3 : W0.cell? ⟨w.heap.size + 1, 2, none⟩ = some (.int .u8 f.a) := by simp [World.cell?, e1]
  have HW0 := Lib.hid hW0.symm
  have HP0 := Lib.hid hP0
  have E0 := Lib.hid e0
  have E3 := Lib.hid e3
  have HBL := Lib.hid hbl
  have hm := h.most
  have hpl := h.pos
  have HGL := Lib.hid (And.intro h.lt h.ltg)
  obtain ⟨n, hn⟩ : ∃ n, n = L.length := ⟨_, rfl⟩
  rw [← hn] at hm hpl ⊢
  have HN : Hid (L.length = n) := hn.symm
  clear hW0 hP0 e0 e1 e3 h hbl hn
  refine callsIn_of_wp_marks Try.func43 rfl trivial ?_ rfl
  simp only [Try.ntmps43, List.size_toArray, List.length_cons, List.length_nil, Nat.reduceAdd, Nat.reduceSub, Array.replicate_succ, Array.replicate_zero, List.push_toArray, List.append_toArray, List.nil_append, List.cons_append]
  gi_wp2_with fail
  rw [HW0.out]
  gi_wp2_with fail
  refine ⟨trivial, ?_⟩
  refine (callsIn_wide.2 (places_any W0 b f)).mono ?_
  rintro e W1 ⟨rfl, hI, hb1, hs1⟩
  rw [hsz0] at hI
  have H1 := Lib.hid (show InI w b g r c cur L f n [] W1 from ⟨HP0.out.below hb1, (hb1.block _ (lt_of_block E0.out)).trans E0.out, (hb1.block _ (lt_of_block E3.out)).trans E3.out, hI, (Turn.of_below HBL.out).trans (Turn.of_below hb1), Nat.zero_le _⟩)
  have hseq := places_seq 2 (by omega) (w.heap.size + 3) (w.heap.size + 4) b n f hk W1 (by omega) hI
  have HSQ := Lib.hid hseq
  clear hI hseq hb1 q0 q1 q2 q3
  gi_wp2_with fail
  refine range_ask (α := Int) rfl (by omega) (gf := 85) rfl trivial (enters_of Try.func85 (by kernel_rfl) rfl) HSQ.out Keep2.trans ?hKb (Below.refl _ _) (fun _ => rfl)
    (InI w b g r c cur L f n) (fun pre W h => by have := h.pl.n; rwa [fillL_length, HN.out] at this) (fun c' pre' W => c' = Code.exit 0 ∧ ∃ pre x, pre' = pre ++ [x] ∧ pre.length = n ∧ InI w b g r c cur L f n pre W) (InI.own _ (by omega)) (fun c' s X Y row h hg hr => ⟨h.1, by obtain ⟨pre, x, h1, h2, h3⟩ := h.2; exact ⟨pre, x, h1, h2, InI.own _ (by omega) pre X Y row h3 hg hr⟩⟩) H1.out
    (fun p a' _ => a' = { tmps := #[.pointer (some ⟨b, 0, none⟩), f.val, .pointer (some ⟨w.heap.size, 0, none⟩), .pointer (some ⟨w.heap.size + 1, 0, none⟩), .int .i64 0, .pointer (some ⟨w.heap.size + 1 + 1, 0, none⟩), .int .i64 p, .pointer (some ⟨b, 0, none⟩), f.val, .func (.func 85) #[] #[.pointer (some ⟨w.heap.size + 3, 0, none⟩), .pointer (some ⟨w.heap.size + 4, 0, none⟩)], .int .i64 p, undef, undef, undef, undef, undef, undef, undef, undef, undef, undef, undef], defers := [] })
    (fun _ _ _ _ _ _ h _ _ => h) ?assign ?body ?done ?stop
  case hKb =>
    intro W o o' ho hc
    have := lt_of_block ho
    exact Keep2.put W o' (by omega) (by omega) (by omega) (by omega)
  case assign =>
    intro l pre p W K hsp hWs hI' hK
    gi_wp2
    exact hK _ _ (KeepsFrom.refl _ _) (Keep2.refl _ _ _) hI' rfl
  case body =>
    rintro l pre x a' W hsp hI' rfl hlt hWs
    rw [Nat.add_zero] at hWs
    have q3 : W.cell? ⟨w.heap.size + 1 + 1, 0, none⟩ = some (.int .i64 (pre.length : Nat)) := by simp [World.cell?, hI'.bn]
    have q4 : W.cell? ⟨w.heap.size, 0, none⟩ = some (.pointer (some ⟨b, 0, none⟩)) := by simp [World.cell?, hI'.bp]
    have hle := hI'.le
    have HI' := Lib.hid hI'
    have h11 : 1 ≤ 3 - 1 - 1 := by omega
    clear hsp hI' hlt
    by_cases hfu : pre.length = n
    · have heq : (((pre.length : Nat) : Int) == (n : Int)) = true := by rw [hfu]; simp
      have HFU := Lib.hid hfu
      clear hfu
      gi_wp2_with fail
      refine region_round (by kernel_rfl) (by kernel_rfl) ?_
      refine wpAnyIn_ready (rs := [0, 1]) (by kernel_rfl) (by simp) (AllReadyIn.cons (o := { dst := some 11, op := Op.load 3 (Operand.tmp 5), type := 3, pos := "wipe.go:55", after := #[], guard := none }) rfl (fun K hK => ?_) (AllReadyIn.cons (o := { dst := some 12, op := Op.load 26 (Operand.tmp 2), type := 26, pos := "wipe.go:55", after := #[], guard := none }) rfl (fun K hK => ?_) AllReadyIn.nil))
      · go_simp
        refine hK _ _ ?_
        clear hK K
        try simp only [Act.put, List.setIfInBounds_toArray, List.set_cons_zero, List.set_cons_succ]
        refine wpAnyIn_ready (rs := [1]) (by kernel_rfl) (by simp) (AllReadyIn.cons (o := { dst := some 12, op := Op.load 26 (Operand.tmp 2), type := 26, pos := "wipe.go:55", after := #[], guard := none }) rfl (fun K hK => ?_) AllReadyIn.nil)
        go_simp
        refine hK _ _ ?_
        clear hK K
        try simp only [Act.put, List.setIfInBounds_toArray, List.set_cons_zero, List.set_cons_succ]
        refine wpAnyIn_ready (rs := [2]) (by kernel_rfl) (by simp) (AllReadyIn.cons (o := { dst := some 13, op := Op.call { callee := Callee.value (Operand.func 39), args := #[Operand.tmp 12], argTypes := #[26] }, type := 3, pos := "wipe.go:55", after := #[{ on := 1, ground := Ground.data }], guard := none }) rfl (fun K hK => ?_) AllReadyIn.nil)
        go_simp
        refine ⟨trivial, ?_⟩
        gi_at_call 39
        (with_reducible refine (callsIn_wide.2 (len_any HI'.out.pl.drew)).mono ?_)
        rw [fillL_length, HN.out]
        rintro e W3 ⟨rfl, rfl⟩
        refine hK _ _ ?_
        clear hK K
        try simp only [Act.put, List.setIfInBounds_toArray, List.set_cons_zero, List.set_cons_succ]
        refine wpAnyIn_ready (rs := [3]) (by kernel_rfl) (by simp) (AllReadyIn.cons (o := { dst := some 14, op := Op.binOp BinOp.eql 3 (Operand.tmp 11) (Operand.tmp 13) 3, type := 4, pos := "wipe.go:55", after := #[{ on := 0, ground := Ground.data }, { on := 2, ground := Ground.data }], guard := none }) rfl (fun K hK => ?_) AllReadyIn.nil)
        go_simp
        refine hK _ _ ?_
        clear hK K
        try simp only [Act.put, List.setIfInBounds_toArray, List.set_cons_zero, List.set_cons_succ]
        refine wpAnyIn_done (by kernel_rfl) ?_ _
        gi_wp2
        exact ⟨keepsB (below_drew (Below.refl _ _)), rfl, pre, x, rfl, HFU.out, HI'.out.drew⟩
      · go_simp
        refine hK _ _ ?_
        clear hK K
        try simp only [Act.put, List.setIfInBounds_toArray, List.set_cons_zero, List.set_cons_succ]
        refine wpAnyIn_ready (rs := [0, 2]) (by kernel_rfl) (by simp) (AllReadyIn.cons (o := { dst := some 11, op := Op.load 3 (Operand.tmp 5), type := 3, pos := "wipe.go:55", after := #[], guard := none }) rfl (fun K hK => ?_) (AllReadyIn.cons (o := { dst := some 13, op := Op.call { callee := Callee.value (Operand.func 39), args := #[Operand.tmp 12], argTypes := #[26] }, type := 3, pos := "wipe.go:55", after := #[{ on := 1, ground := Ground.data }], guard := none }) rfl (fun K hK => ?_) AllReadyIn.nil))
        · go_simp
          refine hK _ _ ?_
          clear hK K
          try simp only [Act.put, List.setIfInBounds_toArray, List.set_cons_zero, List.set_cons_succ]
          refine wpAnyIn_ready (rs := [2]) (by kernel_rfl) (by simp) (AllReadyIn.cons (o := { dst := some 13, op := Op.call { callee := Callee.value (Operand.func 39), args := #[Operand.tmp 12], argTypes := #[26] }, type := 3, pos := "wipe.go:55", after := #[{ on := 1, ground := Ground.data }], guard := none }) rfl (fun K hK => ?_) AllReadyIn.nil)
          go_simp
          refine ⟨trivial, ?_⟩
          gi_at_call 39
          (with_reducible refine (callsIn_wide.2 (len_any HI'.out.pl.drew)).mono ?_)
          rw [fillL_length, HN.out]
          rintro e W3 ⟨rfl, rfl⟩
          refine hK _ _ ?_
          clear hK K
          try simp only [Act.put, List.setIfInBounds_toArray, List.set_cons_zero, List.set_cons_succ]
          refine wpAnyIn_ready (rs := [3]) (by kernel_rfl) (by simp) (AllReadyIn.cons (o := { dst := some 14, op := Op.binOp BinOp.eql 3 (Operand.tmp 11) (Operand.tmp 13) 3, type := 4, pos := "wipe.go:55", after := #[{ on := 0, ground := Ground.data }, { on := 2, ground := Ground.data }], guard := none }) rfl (fun K hK => ?_) AllReadyIn.nil)
          go_simp
          refine hK _ _ ?_
          clear hK K
          try simp only [Act.put, List.setIfInBounds_toArray, List.set_cons_zero, List.set_cons_succ]
          refine wpAnyIn_done (by kernel_rfl) ?_ _
          gi_wp2
          exact ⟨keepsB (below_drew (Below.refl _ _)), rfl, pre, x, rfl, HFU.out, HI'.out.drew⟩
        · go_simp
          refine ⟨trivial, ?_⟩
          gi_at_call 39
          (with_reducible refine (callsIn_wide.2 (len_any HI'.out.pl.drew)).mono ?_)
          rw [fillL_length, HN.out]
          rintro e W3 ⟨rfl, rfl⟩
          refine hK _ _ ?_
          clear hK K
          try simp only [Act.put, List.setIfInBounds_toArray, List.set_cons_zero, List.set_cons_succ]
          refine wpAnyIn_ready (rs := [0]) (by kernel_rfl) (by simp) (AllReadyIn.cons (o := { dst := some 11, op := Op.load 3 (Operand.tmp 5), type := 3, pos := "wipe.go:55", after := #[], guard := none }) rfl (fun K hK => ?_) AllReadyIn.nil)
          go_simp
          refine hK _ _ ?_
          clear hK K
          try simp only [Act.put, List.setIfInBounds_toArray, List.set_cons_zero, List.set_cons_succ]
          refine wpAnyIn_ready (rs := [3]) (by kernel_rfl) (by simp) (AllReadyIn.cons (o := { dst := some 14, op := Op.binOp BinOp.eql 3 (Operand.tmp 11) (Operand.tmp 13) 3, type := 4, pos := "wipe.go:55", after := #[{ on := 0, ground := Ground.data }, { on := 2, ground := Ground.data }], guard := none }) rfl (fun K hK => ?_) AllReadyIn.nil)
          go_simp
          refine hK _ _ ?_
          clear hK K
          try simp only [Act.put, List.setIfInBounds_toArray, List.set_cons_zero, List.set_cons_succ]
          refine wpAnyIn_done (by kernel_rfl) ?_ _
          gi_wp2
          exact ⟨keepsB (below_drew (Below.refl _ _)), rfl, pre, x, rfl, HFU.out, HI'.out.drew⟩
    · have heq : (((pre.length : Nat) : Int) == (n : Int)) = false := by simpa using fun e => hfu (by omega)
      have HFU := Lib.hid (show pre.length < n by omega)
      clear hfu
      gi_wp2_with fail
      refine region_round (by kernel_rfl) (by kernel_rfl) ?_
      refine wpAnyIn_ready (rs := [0, 1]) (by kernel_rfl) (by simp) (AllReadyIn.cons (o := { dst := some 11, op := Op.load 3 (Operand.tmp 5), type := 3, pos := "wipe.go:55", after := #[], guard := none }) rfl (fun K hK => ?_) (AllReadyIn.cons (o := { dst := some 12, op := Op.load 26 (Operand.tmp 2), type := 26, pos := "wipe.go:55", after := #[], guard := none }) rfl (fun K hK => ?_) AllReadyIn.nil))
      · go_simp
        refine hK _ _ ?_
        clear hK K
        try simp only [Act.put, List.setIfInBounds_toArray, List.set_cons_zero, List.set_cons_succ]
        refine wpAnyIn_ready (rs := [1]) (by kernel_rfl) (by simp) (AllReadyIn.cons (o := { dst := some 12, op := Op.load 26 (Operand.tmp 2), type := 26, pos := "wipe.go:55", after := #[], guard := none }) rfl (fun K hK => ?_) AllReadyIn.nil)
        go_simp
        refine hK _ _ ?_
        clear hK K
        try simp only [Act.put, List.setIfInBounds_toArray, List.set_cons_zero, List.set_cons_succ]
        refine wpAnyIn_ready (rs := [2]) (by kernel_rfl) (by simp) (AllReadyIn.cons (o := { dst := some 13, op := Op.call { callee := Callee.value (Operand.func 39), args := #[Operand.tmp 12], argTypes := #[26] }, type := 3, pos := "wipe.go:55", after := #[{ on := 1, ground := Ground.data }], guard := none }) rfl (fun K hK => ?_) AllReadyIn.nil)
        go_simp
        refine ⟨trivial, ?_⟩
        gi_at_call 39
        (with_reducible refine (callsIn_wide.2 (len_any HI'.out.pl.drew)).mono ?_)
        rw [fillL_length, HN.out]
        rintro e W3 ⟨rfl, rfl⟩
        refine hK _ _ ?_
        clear hK K
        try simp only [Act.put, List.setIfInBounds_toArray, List.set_cons_zero, List.set_cons_succ]
        refine wpAnyIn_ready (rs := [3]) (by kernel_rfl) (by simp) (AllReadyIn.cons (o := { dst := some 14, op := Op.binOp BinOp.eql 3 (Operand.tmp 11) (Operand.tmp 13) 3, type := 4, pos := "wipe.go:55", after := #[{ on := 0, ground := Ground.data }, { on := 2, ground := Ground.data }], guard := none }) rfl (fun K hK => ?_) AllReadyIn.nil)
        go_simp
        refine hK _ _ ?_
        clear hK K
        try simp only [Act.put, List.setIfInBounds_toArray, List.set_cons_zero, List.set_cons_succ]
        refine wpAnyIn_done (by kernel_rfl) ?_ _
        gi_wp2_with fail
        refine ⟨trivial, ?_⟩
        refine (CallsIn.inRound l (callsIn_wide.2 (set_any HI'.out.pl.drew x c0))).mono ?_
        rintro e W3 ⟨rfl, hp, ht⟩
        obtain ⟨hR, hK2, hKF, hc1, hf1⟩ := HI'.out.next HGL.out HFU.out x hp ⟨ht.os, ht.tape, ht.output, ht.size, ht.block⟩
        have HR := Lib.hid hR
        have HKK := Lib.hid hK2
        have HKF := Lib.hid hKF
        clear hR hK2 hKF hp ht
        gi_wp2
        exact ⟨HKF.out _ (by omega), HKK.out, HR.out⟩
      · go_simp
        refine hK _ _ ?_
        clear hK K
        try simp only [Act.put, List.setIfInBounds_toArray, List.set_cons_zero, List.set_cons_succ]
        refine wpAnyIn_ready (rs := [0, 2]) (by kernel_rfl) (by simp) (AllReadyIn.cons (o := { dst := some 11, op := Op.load 3 (Operand.tmp 5), type := 3, pos := "wipe.go:55", after := #[], guard := none }) rfl (fun K hK => ?_) (AllReadyIn.cons (o := { dst := some 13, op := Op.call { callee := Callee.value (Operand.func 39), args := #[Operand.tmp 12], argTypes := #[26] }, type := 3, pos := "wipe.go:55", after := #[{ on := 1, ground := Ground.data }], guard := none }) rfl (fun K hK => ?_) AllReadyIn.nil))
        · go_simp
          refine hK _ _ ?_
          clear hK K
          try simp only [Act.put, List.setIfInBounds_toArray, List.set_cons_zero, List.set_cons_succ]
          refine wpAnyIn_ready (rs := [2]) (by kernel_rfl) (by simp) (AllReadyIn.cons (o := { dst := some 13, op := Op.call { callee := Callee.value (Operand.func 39), args := #[Operand.tmp 12], argTypes := #[26] }, type := 3, pos := "wipe.go:55", after := #[{ on := 1, ground := Ground.data }], guard := none }) rfl (fun K hK => ?_) AllReadyIn.nil)
          go_simp
          refine ⟨trivial, ?_⟩
          gi_at_call 39
          (with_reducible refine (callsIn_wide.2 (len_any HI'.out.pl.drew)).mono ?_)
          rw [fillL_length, HN.out]
          rintro e W3 ⟨rfl, rfl⟩
          refine hK _ _ ?_
          clear hK K
          try simp only [Act.put, List.setIfInBounds_toArray, List.set_cons_zero, List.set_cons_succ]
          refine wpAnyIn_ready (rs := [3]) (by kernel_rfl) (by simp) (AllReadyIn.cons (o := { dst := some 14, op := Op.binOp BinOp.eql 3 (Operand.tmp 11) (Operand.tmp 13) 3, type := 4, pos := "wipe.go:55", after := #[{ on := 0, ground := Ground.data }, { on := 2, ground := Ground.data }], guard := none }) rfl (fun K hK => ?_) AllReadyIn.nil)
          go_simp
          refine hK _ _ ?_
          clear hK K
          try simp only [Act.put, List.setIfInBounds_toArray, List.set_cons_zero, List.set_cons_succ]
          refine wpAnyIn_done (by kernel_rfl) ?_ _
          gi_wp2_with fail
          refine ⟨trivial, ?_⟩
          refine (CallsIn.inRound l (callsIn_wide.2 (set_any HI'.out.pl.drew x c0))).mono ?_
          rintro e W3 ⟨rfl, hp, ht⟩
          obtain ⟨hR, hK2, hKF, hc1, hf1⟩ := HI'.out.next HGL.out HFU.out x hp ⟨ht.os, ht.tape, ht.output, ht.size, ht.block⟩
          have HR := Lib.hid hR
          have HKK := Lib.hid hK2
          have HKF := Lib.hid hKF
          clear hR hK2 hKF hp ht
          gi_wp2
          exact ⟨HKF.out _ (by omega), HKK.out, HR.out⟩
        · go_simp
          refine ⟨trivial, ?_⟩
          gi_at_call 39
          (with_reducible refine (callsIn_wide.2 (len_any HI'.out.pl.drew)).mono ?_)
          rw [fillL_length, HN.out]
          rintro e W3 ⟨rfl, rfl⟩
          refine hK _ _ ?_
          clear hK K
          try simp only [Act.put, List.setIfInBounds_toArray, List.set_cons_zero, List.set_cons_succ]
          refine wpAnyIn_ready (rs := [0]) (by kernel_rfl) (by simp) (AllReadyIn.cons (o := { dst := some 11, op := Op.load 3 (Operand.tmp 5), type := 3, pos := "wipe.go:55", after := #[], guard := none }) rfl (fun K hK => ?_) AllReadyIn.nil)
          go_simp
          refine hK _ _ ?_
          clear hK K
          try simp only [Act.put, List.setIfInBounds_toArray, List.set_cons_zero, List.set_cons_succ]
          refine wpAnyIn_ready (rs := [3]) (by kernel_rfl) (by simp) (AllReadyIn.cons (o := { dst := some 14, op := Op.binOp BinOp.eql 3 (Operand.tmp 11) (Operand.tmp 13) 3, type := 4, pos := "wipe.go:55", after := #[{ on := 0, ground := Ground.data }, { on := 2, ground := Ground.data }], guard := none }) rfl (fun K hK => ?_) AllReadyIn.nil)
          go_simp
          refine hK _ _ ?_
          clear hK K
          try simp only [Act.put, List.setIfInBounds_toArray, List.set_cons_zero, List.set_cons_succ]
          refine wpAnyIn_done (by kernel_rfl) ?_ _
          gi_wp2_with fail
          refine ⟨trivial, ?_⟩
          refine (CallsIn.inRound l (callsIn_wide.2 (set_any HI'.out.pl.drew x c0))).mono ?_
          rintro e W3 ⟨rfl, hp, ht⟩
          obtain ⟨hR, hK2, hKF, hc1, hf1⟩ := HI'.out.next HGL.out HFU.out x hp ⟨ht.os, ht.tape, ht.output, ht.size, ht.block⟩
          have HR := Lib.hid hR
          have HKK := Lib.hid hK2
          have HKF := Lib.hid hKF
          clear hR hK2 hKF hp ht
          gi_wp2
          exact ⟨HKF.out _ (by omega), HKK.out, HR.out⟩
  case done =>
    rintro D ys W hD rfl hI' hK
    have q3 : W.cell? ⟨w.heap.size + 1 + 1, 0, none⟩ = some (.int .i64 ((placesL n f.s f.k).length : Nat)) := by simp [World.cell?, hI'.bn]
    have HI' := Lib.hid hI'
    clear hI'
    gi_wp2
    refine ⟨by simp, .inl ⟨_, _, rfl, run_takeDeferred hK, ?_⟩⟩
    have hin : insP n f = placesL n f.s f.k := by unfold insP; exact List.take_of_length_le HI'.out.le
    refine ⟨_, results_tmp rfl _ _ _, ?_, ?_, ?_⟩
    · rw [hin]; rfl
    · rw [hin]; exact HI'.out.pl.grown (grownBy_putObj' W D (.deferred none)) (fun r e => by cases e; exact ⟨_, hK, rfl⟩)
    · exact HI'.out.tn.grown (grownBy_putObj' W D (.deferred none)) (fun k e => by cases e; left; omega)
  case stop =>
    rintro D c' pre' W hD hpre ⟨rfl, pre, x, rfl, hlen, hI'⟩ hK
    have q3 : W.cell? ⟨w.heap.size + 1 + 1, 0, none⟩ = some (.int .i64 (pre.length : Nat)) := by simp [World.cell?, hI'.bn]
    have hin : insP n f = pre := by
      unfold insP
      obtain ⟨t, ht⟩ := hpre
      rw [← ht, List.append_assoc, ← hlen, List.take_left']
      rfl
    have HI' := Lib.hid hI'
    have HIN := Lib.hid hin
    clear hI' hlen hpre hin
    gi_wp2
    refine ⟨by simp, .inl ⟨_, _, rfl, run_takeDeferred hK, ?_⟩⟩
    refine ⟨_, results_tmp rfl _ _ _, ?_, ?_, ?_⟩
    · rw [HIN.out]; rfl
    · rw [HIN.out]; exact HI'.out.pl.grown (grownBy_putObj' W D (.deferred none)) (fun r e => by cases e; exact ⟨_, hK, rfl⟩)
    · exact HI'.out.tn.grown (grownBy_putObj' W D (.deferred none)) (fun k e => by cases e; left; omega)
theorem winside_any {w : World} {b g : Nat} {r c cur : Int} {L : List Cl} (h : PlAt w b g r c cur L) (f : Fd) (hk : f.k ≤ 9223372036854775807) :
    Calls Try.prog 43 #[.pointer (some ⟨b, 0, none⟩), f.val] w fun e W => e = .returned (.int .i64 ((insP L.length f).length : Nat)) ∧ PlAt W b g r c cur (fillL L (insP L.length f) c0) ∧ Turn (At g) w W :=
  callsIn_wide.1 (inside_in h f hk)
end Go.Proofs.Ytgjhboikfbafcaa.Pl
