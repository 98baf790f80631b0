/-
  The contracts of finish and Take.
-/
import Derived.Test.YtimidoaafllnkaaRecA
namespace Go.Proofs.Ytimidoaafllnkaa.Rec
open Go.RowKit Base
set_option linter.unusedVariables false

theorem drop_deferred {w : World} {b : Nat} {B : List Int} {lg : Bool} (u : FrameMode) (h : MakAt w b B lg) : CallsD Try.prog 94 #[.pointer (some ⟨b, 0, none⟩)] u w fun e u' w' => u' = u ∧ (e = .returned (.int .i64 B.length) ∧ MakAt w' b [] false ∧ Turn (At b) w w') := by
  obtain ⟨c0, c1, fz⟩ := h.cell
  have f0 := fz 8192
  have f1 := fz 8193
  have H := Lib.hid h
  clear h fz
  go_enter_d Try.func94, Try.ntmps94
  go_wp2
  go_ret
  exact ⟨rfl, H.out.drop, turn_set2 w b _ _ _ _⟩
/-- What the end of a record brings. -/
def FinP (b : Nat) (B : List Int) (lg : Bool) (w : World) (e : Ending) (w' : World) : Prop :=
  (if lg = true then e = .returned (.tuple #[.slice none 0 0, .int .i64 2]) else ∃ p, e = .returned (.tuple #[p, .int .i64 0]) ∧ OwnBytes w.heap.size w' p B) ∧ MakAt w' b [] false ∧ Turn (fun k => k = b ∨ w.heap.size ≤ k) w w'
set_option maxRecDepth 100000 in
set_option maxHeartbeats 4000000 in
theorem finish_any {w : World} {b : Nat} {B : List Int} {lg : Bool} (h : MakAt w b B lg) : Calls Try.prog 116 #[.pointer (some ⟨b, 0, none⟩)] w (FinP b B lg w) := by
  obtain ⟨c0, c1, fz⟩ := h.cell
  have H := Lib.hid h
  have hle := h.le
  cases lg
  · obtain ⟨m, hm⟩ : ∃ m, m = B.length := ⟨_, rfl⟩
    have hrow : RowOf .u8 w.drew (.slice (some ⟨b, 0, none⟩) m 8192) B := by rw [hm]; exact (h.drewN 1).row 8192
    have HR := Lib.hid hrow
    have HM := Lib.hid hm
    rw [← hm] at c0 hle
    have gm : (m : Int) ≤ 8192 := by omega
    have gm0 : (0 : Int) ≤ (m : Int) := by omega
    clear h fz hrow hm
    go_enter_defers Try.func116, Try.ntmps116
    go_upto_region 4 with fail
    refine wp_region_noPanic ?_
    go_region_law (refine step_append_row (by rfl) _ _ (by rfl) (OwnBytes.nil w.heap.size w.drew) HR.out (fun _ _ h => by cases h) (by rfl) (by rfl) (by rw [← HM.out]; simp; omega) (Nat.le_refl _) (w0 := w) (Below.refl _ w).drew ?_; intro p w2 hown hold _ _)
    refine NoPanic.normal ?_
    have HO := Lib.hid hown
    have HB := Lib.hid hold
    have H2 := Lib.hid (H.out.below hold)
    clear hown hold
    go_wp2
    refine leaves_cons (f := 94) (args := #[.pointer (some ⟨b, 0, none⟩)]) (by simp) (by simp [go_sem]) ?_
    refine (drop_deferred .returning H2.out).mono ?_
    rintro e u' w'' ⟨rfl, rfl, h2, t2⟩
    refine ⟨_, results_tmp2 rfl _ _ _, ?_, h2, ((Turn.of_below HB.out).mono fun k hk => absurd hk id).trans (t2.mono fun k hk => .inl hk)⟩
    rw [if_neg (by simp)]
    refine ⟨_, rfl, ?_⟩
    have hb := H.out.lt
    exact HO.out.keep fun g hg hl => t2.block g hl (fun e => by have : g = b := e; omega)
  · clear h fz
    go_enter_defers Try.func116, Try.ntmps116
    go_wp2
    refine leaves_cons (f := 94) (args := #[.pointer (some ⟨b, 0, none⟩)]) (by simp) (by simp [go_sem]) ?_
    refine (drop_deferred .returning H.out).mono ?_
    rintro e u' w'' ⟨rfl, rfl, h2, t2⟩
    exact ⟨_, results_tmp2 rfl _ _ _, by rw [if_pos rfl]; rfl, h2, t2.mono fun k hk => .inl hk⟩
/-- Blocks that a maker's calls may turn: its own, and new ones. -/
def Mine (w : World) (b : Nat) (k : Nat) : Prop := k = b ∨ w.heap.size ≤ k
theorem mine_box {w W w' : World} {b : Nat} (hb : Below w.heap.size w W) (t : Turn (At b) W w') : Turn (Mine w b) w w' :=
  ((Turn.of_below hb).mono fun k hk => absurd hk id).trans (t.mono fun k hk => .inl hk)
theorem mine_new {w W w' : World} {b : Nat} (hb : Below w.heap.size w W) (t : Turn (fun k => k = b ∨ W.heap.size ≤ k) W w') : Turn (Mine w b) w w' :=
  ((Turn.of_below hb).mono fun k hk => absurd hk id).trans (t.mono fun k hk => hk.imp id fun h => Nat.le_trans hb.size h)
theorem boxed4 {W : World} {g : Nat} {a b c d : Value} {t : TypeId} (h : W.heap[g]? = some (.cells #[a, b, c, d] t (0, 0))) : W.cell? ⟨g, 0, none⟩ = some a ∧ W.cell? ⟨g, 1, none⟩ = some b ∧ W.cell? ⟨g, 2, none⟩ = some c ∧ W.cell? ⟨g, 3, none⟩ = some d :=
  ⟨by simp [World.cell?, h], by simp [World.cell?, h], by simp [World.cell?, h], by simp [World.cell?, h]⟩
set_option maxRecDepth 100000 in
set_option maxHeartbeats 2000000 in
theorem take_data {w : World} {b : Nat} {B : List Int} {lg : Bool} (c o : Int) (v : Value) (X : List Int) (h : MakAt w b B lg) (hr : RowOf .u8 w v X) (hl : X.length ≤ 1000000) :
    Calls Try.prog 91 #[.pointer (some ⟨b, 0, none⟩), .agg #[.int .i64 1, .int .u8 c, .int .u8 o, v]] w fun e w' => e = .returned (.tuple #[.slice none 0 0, .bool false, .int .i64 0]) ∧ MakAt w' b (B ++ X.take (8192 - B.length)) (lg || decide (8192 - B.length < X.length)) ∧ Turn (Mine w b) w w' := by
  have hb := below_alloc w (.cells #[.int .i64 1, .int .u8 c, .int .u8 o, v] 26)
  obtain ⟨av, cv, e, _⟩ := id hr
  have hv : Hid (v = .slice av X.length cv) := Lib.hid e
  obtain ⟨c0, c1, c2, c3⟩ := boxed4 (heap_alloc_new w (.cells #[.int .i64 1, .int .u8 c, .int .u8 o, v] 26))
  obtain ⟨W1, hW1⟩ : ∃ W1, W1 = w.alloc (.cells #[.int .i64 1, .int .u8 c, .int .u8 o, v] 26) := ⟨_, rfl⟩
  rw [← hW1] at hb c0 c1 c2 c3
  have H := Lib.hid (h.below hb)
  have HR := Lib.hid (hr.below hb)
  have HB := Lib.hid hb
  have HW := Lib.hid hW1.symm
  clear h hr hb hW1 e
  go_enter Try.func91, Try.ntmps91
  go_upto_region 1 with fail
  rw [HW.out]
  go_wp2_with fail
  refine (lay_any v X H.out HR.out hl).mono ?_
  rintro e w2 ⟨rfl, h2, t2⟩
  have H2 := Lib.hid h2
  have T2 := Lib.hid t2
  clear h2 t2
  go_wp2_with fail
  go_ret3
  exact ⟨rfl, H2.out, mine_box HB.out T2.out⟩
/-- What the end brings, told by Take. -/
def EndP (b : Nat) (B : List Int) (lg : Bool) (w : World) (e : Ending) (w' : World) : Prop :=
  (if lg = true then e = .returned (.tuple #[.slice none 0 0, .bool true, .int .i64 2]) else ∃ p, e = .returned (.tuple #[p, .bool true, .int .i64 0]) ∧ OwnBytes w.heap.size w' p B) ∧ MakAt w' b [] false ∧ Turn (Mine w b) w w'
set_option maxRecDepth 100000 in
set_option maxHeartbeats 2000000 in
theorem take_end {w : World} {b : Nat} {B : List Int} {lg : Bool} (c o : Int) (v : Value) (h : MakAt w b B lg) :
    Calls Try.prog 91 #[.pointer (some ⟨b, 0, none⟩), .agg #[.int .i64 2, .int .u8 c, .int .u8 o, v]] w (EndP b B lg w) := by
  have hb := below_alloc w (.cells #[.int .i64 2, .int .u8 c, .int .u8 o, v] 26)
  obtain ⟨c0, c1, c2, c3⟩ := boxed4 (heap_alloc_new w (.cells #[.int .i64 2, .int .u8 c, .int .u8 o, v] 26))
  obtain ⟨W1, hW1⟩ : ∃ W1, W1 = w.alloc (.cells #[.int .i64 2, .int .u8 c, .int .u8 o, v] 26) := ⟨_, rfl⟩
  rw [← hW1] at hb c0 c1 c2 c3
  have H := Lib.hid (h.below hb)
  have HB := Lib.hid hb
  have HW := Lib.hid hW1.symm
  clear h hb hW1
  cases lg
  · go_enter Try.func91, Try.ntmps91
    go_upto_region 1 with fail
    rw [HW.out]
    go_wp2_with fail
    refine (finish_any H.out).mono ?_
    rintro e w2 ⟨hp, h2, t2⟩
    rw [if_neg (by simp)] at hp
    obtain ⟨p, rfl, hp⟩ := hp
    have HP := Lib.hid hp
    have H2 := Lib.hid h2
    have T2 := Lib.hid t2
    clear h2 t2 hp
    go_wp2_with fail
    go_ret3
    exact ⟨by rw [if_neg (by simp)]; exact ⟨p, rfl, HP.out.lower HB.out.size⟩, H2.out, mine_new HB.out T2.out⟩
  · go_enter Try.func91, Try.ntmps91
    go_upto_region 1 with fail
    rw [HW.out]
    go_wp2_with fail
    refine (finish_any H.out).mono ?_
    rintro e w2 ⟨hp, h2, t2⟩
    rw [if_pos rfl] at hp
    subst hp
    have H2 := Lib.hid h2
    have T2 := Lib.hid t2
    clear h2 t2
    go_wp2_with fail
    go_ret3
    exact ⟨by rw [if_pos rfl]; rfl, H2.out, mine_new HB.out T2.out⟩
set_option maxRecDepth 100000 in
set_option maxHeartbeats 2000000 in
theorem take_other {w : World} {b : Nat} {B : List Int} {lg : Bool} (k c o : Int) (v : Value) (h : MakAt w b B lg) (h1 : k ≠ 1) (h2 : k ≠ 2) :
    Calls Try.prog 91 #[.pointer (some ⟨b, 0, none⟩), .agg #[.int .i64 k, .int .u8 c, .int .u8 o, v]] w fun e w' => e = .returned (.tuple #[.slice none 0 0, .bool false, .int .i64 0]) ∧ MakAt w' b B lg ∧ Turn (Mine w b) w w' := by
  have hb := below_alloc w (.cells #[.int .i64 k, .int .u8 c, .int .u8 o, v] 26)
  have H := Lib.hid (h.below hb)
  have T := Lib.hid (((Turn.of_below hb).mono fun k hk => absurd hk id) : Turn (Mine w b) w _)
  have t1 : (k == 1) = false := by simpa using h1
  have t2 : (k == 2) = false := by simpa using h2
  clear h hb h1 h2
  go_enter Try.func91, Try.ntmps91
  go_wp2_with fail
  go_ret3
  exact ⟨rfl, H.out, T.out⟩
end Go.Proofs.Ytimidoaafllnkaa.Rec
