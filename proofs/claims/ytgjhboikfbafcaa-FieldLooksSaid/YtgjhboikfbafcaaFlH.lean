/-
  Contract of Unmark of package field.
-/
import Derived.Test.YtgjhboikfbafcaaFlG
namespace Go.Proofs.Ytgjhboikfbafcaa.Pl
open Go.RowKit Go.Shelf Base
attribute [local go_sem] Oper.semAt_some
set_option linter.unusedVariables false
set_option linter.unusedSimpArgs false

theorem modified_k (y : Int) (w : World) (h0 : 0 ≤ y) (h1 : y ≤ 255) (v : Bool) (hv : Attr.modi y = v) : Calls Try.prog 81 #[.int .u8 y] w fun e w' => e = .returned (.bool v) ∧ w = w' := by
  subst hv; exact Attr.modified_any y w h0 h1
set_option maxRecDepth 100000 in
set_option maxHeartbeats 2000000 in
theorem unmark_in {w : World} {b g : Nat} {r c cur : Int} {L : List Cl} (h : PlAt w b g r c cur L) (hbo : BoL L) :
    CallsIn Fence.wide 3 Try.prog 47 #[.pointer (some ⟨b, 0, none⟩)] w fun e W => e = .returned (.int .i64 (unmN (unmF L))) ∧ PlAt W b g r c cur (unmL L (unmF L)) ∧ Turn (At g) w W := by
  have hlb := h.lt
  have hlg := h.ltg
  have hm := h.most
  have hkeep := unmL_keeps L hbo
  obtain ⟨W0, hW0⟩ : ∃ W0, W0 = (w.alloc (.cells #[.pointer (some ⟨b, 0, none⟩)] 26)).alloc (.cells #[.int .i64 0] 3) := ⟨_, rfl⟩
  have h0 : UI w b g r c cur L [] W0 := by
    rw [hW0]
    have e0 := heap_alloc_new w (.cells #[.pointer (some ⟨b, 0, none⟩)] 26)
    have e1 := heap_alloc_new (w.alloc (.cells #[.pointer (some ⟨b, 0, none⟩)] 26)) (.cells #[.int .i64 0] 3)
    simp only [World.size_alloc] at e1
    refine ⟨(h.alloc _).alloc _, ?_, e1, ?_, hlb, hlg⟩
    · rw [Below.heap_alloc _ _ _ (by simp)]; exact e0
    · exact Turn.of_below ((below_alloc w _).alloc (by simp) _)
  have hsz0 : W0.heap.size = w.heap.size + 2 := by rw [hW0]; simp
  have p0 : W0.cell? ⟨w.heap.size, 0, none⟩ = some (.pointer (some ⟨b, 0, none⟩)) := by simp [World.cell?, h0.b0]
  have HW0 := Lib.hid hW0.symm
  have H0 := Lib.hid h0
  have HKE := Lib.hid hkeep
  clear hW0 h h0 hkeep
  refine callsIn_of_wp_marks Try.func47 rfl trivial ?_ rfl
  simp only [Try.ntmps47, List.size_toArray, List.length_cons, List.length_nil, Nat.reduceAdd, Nat.reduceSub, Array.replicate_succ, Array.replicate_zero, List.push_toArray, List.append_toArray, List.nil_append, List.cons_append]
  gi_wp2_with fail
  rw [HW0.out]
  gi_wp2_with fail
  refine ⟨trivial, ?_⟩
  refine (callsIn_wide.2 (all_any W0 b)).mono ?_
  rintro e W1 ⟨rfl, hI, hb1, hs1⟩
  have H1 := Lib.hid (UI.own W0.heap.size (by omega) [] W0 W1 none H0.out (grown_of_below hb1) (fun _ e => by cases e))
  have hseq := all_seq 2 (by omega) W0.heap.size b g r c cur L (unmL L) (fun pre i => (HKE.out pre).1 i) (fun pre => (HKE.out pre).2.1) (fun pre => (HKE.out pre).2.2) W1 (by omega) hI
  rw [hsz0] at hseq
  have HSQ := Lib.hid hseq
  clear hI hseq hb1 p0
  gi_wp2_with fail
  refine range_ask (α := Fd) rfl (by omega) (gf := 83) rfl trivial (enters_of Try.func83 (by kernel_rfl) rfl) HSQ.out Keep2.trans ?hKb (Below.refl _ _) (fun _ => rfl)
    (UI w b g r c cur L) (fun _ W h => h.pl) (fun _ _ _ => False) (UI.own _ (by omega)) (fun _ _ _ _ _ h _ _ => h) H1.out
    (fun f a' W => ∃ B, w.heap.size + 1 < B ∧ W.heap[B]? = some (.cells #[.int .i64 f.s, .int .i64 f.k, .int .u8 f.a] 39 (0, 0)) ∧ a' = { tmps := #[.pointer (some ⟨b, 0, none⟩), .pointer (some ⟨w.heap.size, 0, none⟩), .int .i64 0, .pointer (some ⟨w.heap.size + 1, 0, none⟩), .pointer (some ⟨B, 0, none⟩), .pointer (some ⟨b, 0, none⟩), .func (.func 83) #[] #[.pointer (some ⟨w.heap.size + 2, 0, none⟩)], f.val, undef, undef, undef, undef, undef, undef, undef, undef, undef, undef], defers := [] })
    ?hAx ?assign ?body ?done ?stop
  case hKb =>
    intro W o o' ho hc
    have := lt_of_block ho
    exact Keep2.put W o' (by omega) (by omega) (by omega) (by omega)
  case hAx =>
    rintro f a' s X Y row ⟨B, h1, h2, h3⟩ hg hr
    exact ⟨B, h1, (cells_kept h2 hg (fun r e => (hr r e).2)).trans h2, h3⟩
  case assign =>
    intro l pre f W K hsp hWs hI' hK
    rw [Nat.add_zero] at hWs
    have HI' := Lib.hid hI'
    clear hI'
    gi_wp2
    have hb := below_alloc W (.cells #[.int .i64 f.s, .int .i64 f.k, .int .u8 f.a] 39)
    refine hK _ _ (keepsB hb) (Keep2.turn (S := fun _ => False) (Turn.of_below hb) (by omega) (by omega) (by simp) (by simp)) (UI.own W.heap.size (by have := HI'.out.tn.size; omega) pre W _ none HI'.out (grown_of_below hb) (fun _ e => by cases e)) ⟨W.heap.size, lt_of_block HI'.out.b1, heap_alloc_new _ _, ?_⟩
    rfl
  case body =>
    rintro l pre f a' W hsp hI' ⟨B, hB1, hB2, rfl⟩ hlt hWs
    rw [Nat.add_zero] at hWs
    have hmem : f ∈ allK L (unmL L) L.length := hsp.subset (by simp)
    obtain ⟨i, pre', hi1, hi2, hi3⟩ := mem_allK _ _ hmem
    have hfa := begF_a (unmL L pre') (HKE.out pre').2.2 i
    rw [← hi3] at hfa
    have hn := Nat.lt_of_lt_of_le hlt (allK_most L (unmL L) L.length)
    have hun : (unmN pre : Int) < 4096 := by
      have : unmN pre ≤ pre.length := List.length_filter_le _ _
      omega
    obtain ⟨fs, fk, fa⟩ := f
    simp only at hB2 hfa
    have q0 : W.cell? ⟨w.heap.size, 0, none⟩ = some (.pointer (some ⟨b, 0, none⟩)) := by simp [World.cell?, hI'.b0]
    have q1 : W.cell? ⟨B, 0, none⟩ = some (.int .i64 fs) := by simp [World.cell?, hB2]
    have q2 : W.cell? ⟨B, 1, none⟩ = some (.int .i64 fk) := by simp [World.cell?, hB2]
    have q3 : W.cell? ⟨B, 2, none⟩ = some (.int .u8 fa) := by simp [World.cell?, hB2]
    have hblt := lt_of_block hB2
    have HB2 := Lib.hid hB2
    have HI' := Lib.hid hI'
    clear hsp hI' hmem hi3 hlt hB2
    cases hmo : Attr.modi fa with
    | false =>
      have HMO := Lib.hid hmo
      clear hmo
      gi_wp2_with (refine ⟨trivial, ?_⟩; gi_at_call 81; (with_reducible refine (CallsIn.inRound l (callsIn_wide.2 (modified_k fa _ hfa.1 hfa.2 false HMO.out))).mono ?_); rintro e w' ⟨rfl, rfl⟩)
      exact ⟨KeepsFrom.refl _ _, Keep2.refl _ _ _, HI'.out.same _ HMO.out⟩
    | true =>
      have HMO := Lib.hid hmo
      clear hmo
      gi_wp2_with (refine ⟨trivial, ?_⟩; first
        | (gi_at_call 81; (with_reducible refine (CallsIn.inRound l (callsIn_wide.2 (modified_k fa _ hfa.1 hfa.2 true HMO.out))).mono ?_); rintro e w' ⟨rfl, rfl⟩)
        | (gi_at_call 80; (with_reducible refine (CallsIn.inRound l (callsIn_wide.2 (fmodify_any HI'.out.pl fs false (HKE.out pre).2.2))).mono ?_); rintro e W3 ⟨⟨v, rfl⟩, hp, ht⟩
           have r2 : W3.cell? ⟨w.heap.size + 1, 0, none⟩ = some (.int .i64 (unmN pre)) := by
             have := (ht.block _ (lt_of_block HI'.out.b1) (by have := HI'.out.lg; unfold At; omega)).trans HI'.out.b1
             simp [World.cell?, this]
           have r3 : W3.frozen? ⟨w.heap.size + 1, 0, none⟩ = false := by
             have := (ht.block _ (lt_of_block HI'.out.b1) (by have := HI'.out.lg; unfold At; omega)).trans HI'.out.b1
             simp [World.frozen?, this]
           have HST := Lib.hid (HI'.out.step ⟨fs, fk, fa⟩ HMO.out hp ht)
           clear hp ht))
      obtain ⟨hf, ht⟩ := HST.out
      have hlg' := HI'.out.lg
      have hW := HI'.out.tn.size
      refine ⟨keeps_of_turn ht (fun k hk => by rcases hk with hk | hk <;> unfold At at hk <;> omega), Keep2.turn ht (by omega) (by omega) ?_ ?_, hf⟩
      · unfold Or2 At; omega
      · unfold Or2 At; omega
  case done =>
    rintro D ys W hD rfl hI' hK
    have q2 : W.cell? ⟨w.heap.size + 1, 0, none⟩ = some (.int .i64 (unmN (allK L (unmL L) L.length))) := by simp [World.cell?, hI'.b1]
    have HI' := Lib.hid hI'
    clear hI'
    gi_wp2
    refine ⟨by simp, .inl ⟨_, _, rfl, run_takeDeferred hK, ?_⟩⟩
    refine ⟨_, results_tmp rfl _ _ _, rfl, ?_, ?_⟩
    · exact HI'.out.pl.grown (grownBy_putObj' W D (.deferred none)) (fun r e => by cases e; exact ⟨_, hK, rfl⟩)
    · exact HI'.out.tn.grown (grownBy_putObj' W D (.deferred none)) (fun k e => by cases e; left; omega)
  case stop =>
    rintro D c pre W _ _ h _
    exact h.elim
theorem unmark_any {w : World} {b g : Nat} {r c cur : Int} {L : List Cl} (h : PlAt w b g r c cur L) (hbo : BoL L) :
    Calls Try.prog 47 #[.pointer (some ⟨b, 0, none⟩)] w fun e W => e = .returned (.int .i64 (unmN (unmF L))) ∧ PlAt W b g r c cur (unmL L (unmF L)) ∧ Turn (At g) w W := callsIn_wide.1 (unmark_in h hbo)
end Go.Proofs.Ytgjhboikfbafcaa.Pl
