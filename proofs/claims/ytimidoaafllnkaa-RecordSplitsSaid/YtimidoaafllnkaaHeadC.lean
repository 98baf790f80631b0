/-
  The contract of Parse.
-/
import Derived.Test.YtimidoaafllnkaaHeadB
import Derived.BigRegion
namespace Go.Proofs.Ytimidoaafllnkaa.Head
open Go.RowKit Base
set_option linter.unusedVariables false

theorem results_row_tmp2 {fn : Func} {p u x : Tmp} {ty : TypeId} (h : fn.results = #[.cell p ty, .tmp u, .tmp x]) (tmps : Array Value) (w : World) (g : Nat) (cs : Array Value)
    (hp : tmps.getD p undef = .pointer (some ⟨g, 0, none⟩)) (hrun : (loadVar ty ⟨g, 0, none⟩).run Try.prog w = .ok (.agg cs) w) :
    (results fn tmps).run Try.prog w = .ok (.tuple #[.agg cs, tmps.getD u undef, tmps.getD x undef]) w := by
  have hp' : tmps[p]?.getD undef = .pointer (some ⟨g, 0, none⟩) := by simpa using hp
  simp only [results, h]
  simp [Result.andThen, hp', asAddr, hrun]
def hd0 : Hd := ⟨0, 0, 0, 0⟩
theorem or_u16 (x y : Int) (x0 : 0 ≤ x) (x1 : x ≤ 255) (y0 : 0 ≤ y) (y1 : y ≤ 255) : bits .or .u16 (x * 256) y = x * 256 + y := by
  obtain ⟨a, rfl⟩ := Int.eq_ofNat_of_zero_le x0
  obtain ⟨b, rfl⟩ := Int.eq_ofNat_of_zero_le y0
  have hb : b < 2 ^ 8 := by omega
  have key : (BitVec.ofInt 16 ((a : Int) * 256) ||| BitVec.ofInt 16 (b : Int)).toNat = a * 256 + b := by
    rw [BitVec.toNat_or, BitVec.toNat_ofInt, BitVec.toNat_ofInt]
    have e1 : (((a : Int) * 256) % ((2 ^ 16 : Nat) : Int)).toNat = a <<< 8 := by rw [Nat.shiftLeft_eq]; omega
    have e2 : ((b : Int) % ((2 ^ 16 : Nat) : Int)).toNat = b := by omega
    rw [e1, e2, ← Nat.shiftLeft_add_eq_or_of_lt hb, Nat.shiftLeft_eq]
  show IntKind.u16.wrap (((BitVec.ofInt 16 ((a : Int) * 256) ||| BitVec.ofInt 16 (b : Int)).toNat : Nat) : Int) = _
  rw [key]
  unfold IntKind.wrap
  simp [IntKind.bits, IntKind.signed]
  omega
theorem RowOf.dropTo {w : World} {b off n c : Nat} {L : List Int} (h : RowOf .u8 w (.slice (some ⟨b, off, none⟩) n c) L) (m : Nat) (hm : m ≤ n) (c' : Nat) : RowOf .u8 w (.slice (some ⟨b, off + m, none⟩) (n - m) c') (L.drop m) := by
  obtain ⟨a', c0, e', hr⟩ := h
  injection e' with e1 e2 e3
  subst e1
  have hl : (L.drop m).length = n - m := by rw [List.length_drop, ← e2]
  refine ⟨_, c', by rw [hl], fun hne => ?_⟩
  have hne' : L ≠ [] := by intro e; rw [e] at hne; simp at hne
  obtain ⟨b, off, ha, hc⟩ := hr hne'
  cases ha
  refine ⟨_, _, rfl, fun i hi => ?_⟩
  rw [hl] at hi
  rw [List.getElem?_drop, show off + m + i = off + (m + i) by omega]
  exact hc (m + i) (by omega)
/-- The header that stands ahead. -/
def headOf (L : List Int) : Hd := ⟨L[0]?.getD 0, L[1]?.getD 0, L[2]?.getD 0, L[3]?.getD 0 * 256 + L[4]?.getD 0⟩
section
variable {w W : World} {g : Nat} {cs : Array Value}
end
end Go.Proofs.Ytimidoaafllnkaa.Head
