/-
  Headers: plainly, and the contracts of Write, Code, Answer and Sense.
-/
import Derived.Test.YtimidoaafllnkaaAppRow
import Derived.Deep.WholeRow
import Derived.Laws.ResultCell
namespace Go.Proofs.Ytimidoaafllnkaa.Head
open Go.RowKit Base
set_option linter.unusedVariables false

/-- A header. -/
structure Hd where
  ty : Int
  rq : Int
  rs : Int
  seq : Int
structure Hd.Ok (h : Hd) : Prop where
  ty0 : 0 ≤ h.ty
  ty1 : h.ty ≤ 255
  rq0 : 0 ≤ h.rq
  rq1 : h.rq ≤ 255
  rs0 : 0 ≤ h.rs
  rs1 : h.rs ≤ 255
  sq0 : 0 ≤ h.seq
  sq1 : h.seq ≤ 65535
def hdA (h : Hd) : Array Value := #[.int .u8 h.ty, .int .u8 h.rq, .int .u8 h.rs, .int .u16 h.seq]
def hdL (h : Hd) : List Int := [h.ty, h.rq, h.rs, h.seq / 256, h.seq % 256]
theorem new5_own {s : Nat} (w : World) (hs : s ≤ w.heap.size) (a b c d e : Int) : OwnBytes s (w.alloc (.cells #[.int .u8 a, .int .u8 b, .int .u8 c, .int .u8 d, .int .u8 e] 5)) (.slice (some ⟨w.heap.size, 0, none⟩) 5 5) [a, b, c, d, e] :=
  ⟨rfl, .inr ⟨w.heap.size, 5, #[.int .u8 a, .int .u8 b, .int .u8 c, .int .u8 d, .int .u8 e], rfl, hs, heap_alloc_new w _, by simp, by simp [maxLen], by simp, by simp⟩⟩
/-- An error's byte. -/
def codeB (e : Int) : Int := if e = 30 then 0 else 2
end Go.Proofs.Ytimidoaafllnkaa.Head
