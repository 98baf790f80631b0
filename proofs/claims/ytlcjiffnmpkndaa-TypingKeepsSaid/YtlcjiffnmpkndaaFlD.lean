/-
  A place's field; what may be typed; what is modified; the place behind an attribute.
-/
import Derived.Test.YtlcjiffnmpkndaaFlC
namespace Go.Proofs.Ytlcjiffnmpkndaa.Pl
open Go.RowKit Go.Shelf Base
set_option linter.unusedVariables false
set_option linter.unusedSimpArgs false

theorem results_fd {fn : Func} {p u : Tmp} (h : fn.results = #[.cell p 74, .tmp u]) (tmps : Array Value) (w : World) (g : Nat) (cs : Array Value)
    (hp : tmps.getD p undef = .pointer (some ⟨g, 0, none⟩)) (hg : w.heap[g]? = some (.cells cs 74 (0, 0))) (hi : (Try.prog.info? 74).map (·.size) = some cs.size) :
    (results fn tmps).run Try.prog w = .ok (.tuple #[.agg cs, tmps.getD u undef]) w := by
  have hp' : tmps[p]?.getD undef = .pointer (some ⟨g, 0, none⟩) := by simpa using hp
  have hl := run_loadVar_row (P := Try.prog) w g 74 74 cs (0, 0) _ hg Try.underlying74 rfl hi
  simp [results, h, hp', asAddr, Sem.run_bind, Result.andThen, hl]
def fd0 : Fd := ⟨0, 0, 0⟩
def ofF (L : List Cl) (a : Int) : Fd := if befL L a = -1 then fd0 else begF L (befL L a)
def isF (L : List Cl) (a : Int) : Bool := befL L a != -1
def opnL (L : List Cl) (a : Int) : Bool := inL L.length a && (befL L a == -1 || (befL L a != a && !Attr.prot (atL L (befL L a)).b))
/-- The attribute of a place is modified, or not. -/
def modC (x : Cl) (on : Bool) : Cl := { x with b := Attr.modify x.b on }
def modL (L : List Cl) (s : Int) (on : Bool) : List Cl := setL L s (modC (atL L s) on)
theorem bef_range {L : List Cl} (hm : L.length ≤ 4096) (a : Int) : befL L a = -1 ∨ 0 ≤ befL L a ∧ befL L a < L.length := by
  unfold befL
  rcases firstL_cases (L := L) (backL L.length a) with ⟨h, _⟩ | ⟨h, _⟩
  · left; exact h
  · right; exact mem_back h
section
variable {w : World} {b g : Nat} {r c cur : Int} {L : List Cl}
set_option maxHeartbeats 800000 in
theorem of_any (h : PlAt w b g r c cur L) (a : Int) (hbo : BoL L) : Calls Try.prog 50 #[.pointer (some ⟨b, 0, none⟩), .int .i64 a] w fun e W => e = .returned (.tuple #[(ofF L a).val, .bool (isF L a)]) ∧ Below w.heap.size w W := by
  have hm := h.most
  have hbr := bef_range hm a
  have HH := Lib.hid (h.alloc (.cells #[.int .i64 0, .int .i64 0, .int .u8 0] 74))
  have hb0 := Lib.hid (below_alloc w (.cells #[.int .i64 0, .int .i64 0, .int .u8 0] 74))
  have hn0 := heap_alloc_new w (.cells #[.int .i64 0, .int .i64 0, .int .u8 0] 74)
  obtain ⟨z, hz⟩ : ∃ z, z = befL L a := ⟨_, rfl⟩
  have HZ := Lib.hid hz
  rw [← hz] at hbr
  unfold ofF isF
  rw [← hz]
  have HBO := Lib.hid hbo
  clear h hz hbo
  by_cases hz1 : z = -1
  · subst hz1
    have HF := Lib.hid (show (if ((-1 : Int) = -1) then fd0 else begF L (-1)) = fd0 by simp)
    go_enter Try.func50, Try.ntmps50
    go_wp2_with (go_at_call 72; refine (before_any HH.out a).mono ?_; rintro e w1 ⟨he, hb1⟩; rw [← HZ.out] at he; subst he; have B1 := Lib.hid (hb0.out.trans (hb1.mono (by simp))); have c1 := (hb1.block w.heap.size (by simp)).trans hn0; clear hb1
                 have d0 : w1.cell? ⟨w.heap.size, 0, none⟩ = some (.int .i64 0) := by simp [World.cell?, c1]
                 have d1 : w1.cell? ⟨w.heap.size, 1, none⟩ = some (.int .i64 0) := by simp [World.cell?, c1]
                 have d2 : w1.cell? ⟨w.heap.size, 2, none⟩ = some (.int .u8 0) := by simp [World.cell?, c1]
                 have d3 : ∀ o, w1.frozen? ⟨w.heap.size, o, none⟩ = false := fun o => by simp [World.frozen?, c1])
    have hh : (((w1.setCell ⟨w.heap.size, 0, none⟩ (.int .i64 0)).setCell ⟨w.heap.size, 1, none⟩ (.int .i64 0)).setCell ⟨w.heap.size, 2, none⟩ (.int .u8 0)).heap[w.heap.size]? = some (.cells #[.int .i64 0, .int .i64 0, .int .u8 0] 74 (0, 0)) := by
      rw [heap_set (heap_set (heap_set c1 0 _) 1 _) 2 _]; simp
    refine bodyPost_ret (results_fd rfl _ _ w.heap.size _ rfl hh size_fd) rfl ⟨?_, ?_⟩
    · simp [fd0]
    · exact B1.out.trans (((turn_set w1 w.heap.size 0 _).trans ((turn_set _ w.heap.size 1 _).trans (turn_set _ w.heap.size 2 _))).at_below B1.out.size (Nat.le_refl _))
  · have hz2 : 0 ≤ z ∧ z < 4096 := by omega
    have hz3 : (z == -1) = false := by simpa using hz1
    obtain ⟨⟨fs, fk, fa⟩, hf⟩ : ∃ f, f = begF L z := ⟨_, rfl⟩
    have HF := Lib.hid hf
    rw [if_neg hz1, ← hf]
    clear hf
    go_enter Try.func50, Try.ntmps50
    go_wp2_with (first
      | (go_at_call 72; refine (before_any HH.out a).mono ?_; rintro e w1 ⟨he, hb1⟩; rw [← HZ.out] at he; subst he; have H1 := Lib.hid (HH.out.below hb1); have B1 := Lib.hid (hb0.out.trans (hb1.mono (by simp))); have c1 := (hb1.block w.heap.size (by simp)).trans hn0; clear hb1)
      | (go_at_call 94; refine (begun_any H1.out z hz2 HBO.out).mono ?_; rintro e w2 ⟨he, hb2⟩; rw [← HF.out] at he; simp only [Fd.val] at he; subst he; have B2 := Lib.hid (B1.out.trans (hb2.mono B1.out.size)); have c2 := (hb2.block w.heap.size (lt_of_block c1)).trans c1; clear hb2
         have d0 : w2.cell? ⟨w.heap.size, 0, none⟩ = some (.int .i64 0) := by simp [World.cell?, c2]
         have d1 : w2.cell? ⟨w.heap.size, 1, none⟩ = some (.int .i64 0) := by simp [World.cell?, c2]
         have d2 : w2.cell? ⟨w.heap.size, 2, none⟩ = some (.int .u8 0) := by simp [World.cell?, c2]
         have d3 : ∀ o, w2.frozen? ⟨w.heap.size, o, none⟩ = false := fun o => by simp [World.frozen?, c2]))
    have hh : (((w2.setCell ⟨w.heap.size, 0, none⟩ (.int .i64 fs)).setCell ⟨w.heap.size, 1, none⟩ (.int .i64 fk)).setCell ⟨w.heap.size, 2, none⟩ (.int .u8 fa)).heap[w.heap.size]? = some (.cells #[.int .i64 fs, .int .i64 fk, .int .u8 fa] 74 (0, 0)) := by
      rw [heap_set (heap_set (heap_set c2 0 _) 1 _) 2 _]; simp
    refine bodyPost_ret (results_fd rfl _ _ w.heap.size _ rfl hh size_fd) rfl ⟨?_, ?_⟩
    · simp [hz1]
    · exact B2.out.trans (((turn_set w2 w.heap.size 0 _).trans ((turn_set _ w.heap.size 1 _).trans (turn_set _ w.heap.size 2 _))).at_below B2.out.size (Nat.le_refl _))
end
end Go.Proofs.Ytlcjiffnmpkndaa.Pl
