/-
  Headers: plainly, and the contracts of Write, Code, Answer and Sense.
-/
import Derived.Test.YtkolhjglehnigaaAppRow
import Derived.Deep.WholeRow
import Derived.Laws.ResultCell
namespace Go.Proofs.Ytkolhjglehnigaa.Head
open Go.RowKit Base
set_option linter.unusedVariables false

/-- A header. -/
structure Hd where
  ty : Int
  rq : Int
  rs : Int
  seq : Int
structure Hd.Ok (h : Hd) : Prop where
  ty0 : 0 ≤ h.ty
  ty1 : h.ty ≤ 255
  rq0 : 0 ≤ h.rq
  rq1 : h.rq ≤ 255
  rs0 : 0 ≤ h.rs
  rs1 : h.rs ≤ 255
  sq0 : 0 ≤ h.seq
  sq1 : h.seq ≤ 65535
def hdA (h : Hd) : Array Value := #[.int .u8 h.ty, .int .u8 h.rq, .int .u8 h.rs, .int .u16 h.seq]
def hdL (h : Hd) : List Int := [h.ty, h.rq, h.rs, h.seq / 256, h.seq % 256]
theorem size_hd : (Try.prog.info? 116).map (·.size) = some 4 := by kernel_rfl
theorem info_hd : (Try.prog.info? 116).map (fun i => (i.zero, i.size)) = some (some (.agg #[.int .u8 0, .int .u8 0, .int .u8 0, .int .u16 0]), 4) := by kernel_rfl
theorem new5_own {s : Nat} (w : World) (hs : s ≤ w.heap.size) (a b c d e : Int) : OwnBytes s (w.alloc (.cells #[.int .u8 a, .int .u8 b, .int .u8 c, .int .u8 d, .int .u8 e] 5)) (.slice (some ⟨w.heap.size, 0, none⟩) 5 5) [a, b, c, d, e] :=
  ⟨rfl, .inr ⟨w.heap.size, 5, #[.int .u8 a, .int .u8 b, .int .u8 c, .int .u8 d, .int .u8 e], rfl, hs, heap_alloc_new w _, by simp, by simp [maxLen], by simp, by simp⟩⟩
set_option maxRecDepth 100000 in
set_option maxHeartbeats 4000000 in
theorem hwrite_any (h : Hd) (hk : h.Ok) (v : Value) (L : List Int) (w : World) (hr : RowOf .u8 w v L) (hu : ∀ n c, v = .slice none n c → c = 0) (hl : L.length ≤ 100000) :
    Calls Try.prog 73 #[.agg (hdA h), v] w fun e w' => ∃ p, e = .returned p ∧ OwnBytes w.heap.size w' p (hdL h ++ L) ∧ Below w.heap.size w w' := by
  obtain ⟨ty, rq, rs, sq⟩ := h
  obtain ⟨t0, t1, q0, q1, r0, r1, s0, s1⟩ := hk
  simp only at t0 t1 q0 q1 r0 r1 s0 s1
  unfold hdA hdL
  simp only
  have b1 := below_alloc w (.cells #[.int .u8 ty, .int .u8 rq, .int .u8 rs, .int .u16 sq] 116)
  have b2 := below_alloc (w.alloc (.cells #[.int .u8 ty, .int .u8 rq, .int .u8 rs, .int .u16 sq] 116)) (.cells #[.int .u8 ty, .int .u8 rq, .int .u8 rs, .int .u8 (sq / 256), .int .u8 (sq % 256)] 5)
  have HB := Lib.hid (b1.trans (b2.mono b1.size))
  have ho := new5_own (s := w.heap.size) (w.alloc (.cells #[.int .u8 ty, .int .u8 rq, .int .u8 rs, .int .u16 sq] 116)) b1.size ty rq rs (sq / 256) (sq % 256)
  rw [World.size_alloc] at ho
  have HO := Lib.hid ho
  clear ho
  have HR := Lib.hid (hr.below HB.out)
  have HU := Lib.hid hu
  clear b1 b2 hr hu
  go_enter Try.func73, Try.ntmps73
  go_wp2_with (at_builtin; go_loud (refine append_row rfl _ _ rfl HO.out HR.out HU.out rfl rfl (by simp; omega) (by rw [World.size_alloc, World.size_alloc]; omega) HB.out ?_); intro v' w5 hown hold _ _; have H5 := Lib.hid hown; have B5 := Lib.hid hold; clear hown hold)
  go_ret
  exact ⟨_, rfl, H5.out, B5.out⟩
/-- An error's byte. -/
def codeB (e : Int) : Int := if e = 30 then 0 else 2
end Go.Proofs.Ytkolhjglehnigaa.Head
