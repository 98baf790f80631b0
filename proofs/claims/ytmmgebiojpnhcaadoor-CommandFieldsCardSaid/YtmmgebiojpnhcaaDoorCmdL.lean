/-
  A map that holds nothing; the lists that wait.
-/
import Derived.Test.YtmmgebiojpnhcaaDoorCmdK
import Derived.MapFrom
namespace Go.Proofs.YtmmgebiojpnhcaaDoor.Cmd
open Go.RowKit Base Go.Proofs.YtmmgebiojpnhcaaDoor.Ord
set_option linter.unusedVariables false
set_option linter.unusedSimpArgs false

theorem map_ty : Tryd.prog.underlying 69 = some (.map 72 73) := by kernel_rfl
theorem key_fields : ∃ f0 f1 f2 : Field, Tryd.prog.underlying 72 = some (.struct #[f0, f1, f2]) ∧ f0.type = 70 ∧ f0.offset = 0 ∧ f1.type = 70 ∧ f1.offset = 1 ∧ f2.type = 3 ∧ f2.offset = 2 := ⟨_, _, _, Tryd.underlying72, rfl, rfl, rfl, rfl, rfl, rfl⟩
theorem check_key (e : Bool) (a b : Option Addr) (n : Int) (w : World) : (Instr.checkKey e 10000 72 (.agg #[.pointer a, .pointer b, .int .i64 n])).run Tryd.prog w = .ok () w := by
  kernel_rfl
theorem map_look {w : World} {m : Nat} {c : Nat} (h : w.heap[m]? = some (.map #[] c)) (a b : Option Addr) (n : Int) :
    (Instr.lookup 69 (.map (some m)) (.agg #[.pointer a, .pointer b, .int .i64 n]) true).run Tryd.prog w = .ok (.tuple #[.agg #[], .bool false]) w := by
  have hz : (zeroValue 73).run Tryd.prog w = .ok (.agg #[]) w := by kernel_rfl
  have hu : Tryd.prog.underlying 72 = some (.struct _) := Tryd.underlying72
  have hf : (Instr.findKey 72 (.agg #[.pointer a, .pointer b, .int .i64 n]) []).run Tryd.prog w = .ok none w := by
    simp [Instr.findKey, run_underlying hu, Instr.findNow, Instr.findAsking, Result.andThen]
  simp [Instr.lookup, run_underlying map_ty, MapKept.run_getObj_map h, check_key, hf, hz, Result.andThen]
theorem map_put {w : World} {m : Nat} {c : Nat} (h : w.heap[m]? = some (.map #[] c)) (a b : Option Addr) (n : Int) :
    ∃ w', (Instr.mapUpdate 69 (.map (some m)) (.agg #[.pointer a, .pointer b, .int .i64 n]) (.agg #[])).run Tryd.prog w = .ok () w' ∧ Turn (At m) w w' := by
  have hu : Tryd.prog.underlying 72 = some (.struct _) := Tryd.underlying72
  have hf : (Instr.findKey 72 (.agg #[.pointer a, .pointer b, .int .i64 n]) []).run Tryd.prog w = .ok none w := by
    simp [Instr.findKey, run_underlying hu, Instr.findNow, Instr.findAsking, Result.andThen]
  refine ⟨_, by simp [Instr.mapUpdate, run_underlying map_ty, MapKept.run_getObj_map h, check_key, hf, MapKept.run_setObj_map _ h, Result.andThen]; rfl, ?_⟩
  refine ⟨rfl, rfl, rfl, ?_, fun k hk hne => ?_⟩
  · simp
  · have hkm : m ≠ k := fun e => hne e.symm
    simp [Array.getElem?_setIfInBounds, hkm]
end Go.Proofs.YtmmgebiojpnhcaaDoor.Cmd
