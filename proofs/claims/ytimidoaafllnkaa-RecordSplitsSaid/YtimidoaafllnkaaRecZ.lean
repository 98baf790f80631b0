/-
  A new maker: its zero value.
-/
import Derived.Test.YtimidoaafllnkaaRecB
namespace Go.Proofs.Ytimidoaafllnkaa.Rec
open Go.RowKit Base
set_option linter.unusedVariables false

def z8 : Value := .int .u8 0
def zt0 : List Value := List.append (List.replicate 64 z8) (List.replicate 64 z8)
def zt1 : List Value := List.append zt0 zt0
def zt2 : List Value := List.append zt1 zt1
def zt3 : List Value := List.append zt2 zt2
def zt4 : List Value := List.append zt3 zt3
def zt5 : List Value := List.append (List.replicate 32 z8) (List.replicate 33 z8)
def zt6 : List Value := List.append (List.replicate 64 z8) zt5
def zt7 : List Value := List.append zt0 zt6
def zt8 : List Value := List.append zt1 zt7
def zt9 : List Value := List.append zt2 zt8
def zt10 : List Value := List.append zt3 zt9
def zt11 : List Value := List.append zt4 zt10
def zt12 : List Value := List.append (List.replicate 32 z8) (List.replicate 31 z8 ++ [.int .i64 0, .bool false])
def zt13 : List Value := List.append (List.replicate 64 z8) zt12
def zt14 : List Value := List.append zt0 zt13
def zt15 : List Value := List.append zt1 zt14
def zt16 : List Value := List.append zt2 zt15
def zt17 : List Value := List.append zt3 zt16
def zt18 : List Value := List.append zt4 zt17
def zt19 : List Value := List.append zt11 zt18
def zmkL : List Value := zt19
def zmk : Array Value := zmkL.toArray
set_option maxRecDepth 100000 in
theorem info_mk : (Try.prog.info? 134).map (fun i => (i.zero, i.size)) = some (some (.agg zmk), 8194) := by kernel_rfl
theorem zmk_list : zmkL = List.replicate 8192 z8 ++ [.int .i64 0, .bool false] := by
  simp only [zmkL, zt0, zt1, zt2, zt3, zt4, zt5, zt6, zt7, zt8, zt9, zt10, zt11, zt12, zt13, zt14, zt15, zt16, zt17, zt18, zt19, List.append_eq, ← List.append_assoc, List.replicate_append_replicate, Nat.reduceAdd]
theorem mak_new (w : World) : MakAt (w.alloc (.cells zmk 134)) w.heap.size [] false := by
  refine ⟨zmk, heap_alloc_new w _, ?_⟩
  have hr : (List.replicate 8192 z8).length = 8192 := List.length_replicate
  have hs : zmk.size = 8194 := by unfold zmk; rw [List.size_toArray, zmk_list, List.length_append, hr]; rfl
  refine ⟨hs, fun i hi => ⟨0, ?_⟩, fun i hi => by simp at hi, ?_, ?_, by simp⟩
  · unfold zmk
    rw [List.getElem?_toArray, zmk_list, List.getElem?_append_left (by rw [hr]; exact hi), List.getElem?_replicate, if_pos hi]
    rfl
  · unfold zmk
    rw [List.getElem?_toArray, zmk_list, List.getElem?_append_right (by rw [hr]; omega), hr]
    rfl
  · unfold zmk
    rw [List.getElem?_toArray, zmk_list, List.getElem?_append_right (by rw [hr]; omega), hr]
    rfl
end Go.Proofs.Ytimidoaafllnkaa.Rec
