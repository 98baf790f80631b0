/-
  A side's calls, wherever the side lies in a block: what they answer, and the one cell that they turn.
-/
import Derived.Test.YtimidoaafllnkaaOptA
namespace Go.Proofs.Ytimidoaafllnkaa.Opt
open Go.RowKit Base
set_option linter.unusedVariables false

/-- A call that turns the cell at a place from s to s', or finds it so. -/
def Raw1 (b i s s' r : Nat) (w : World) (e : Ending) (w' : World) : Prop := e = .returned (.int .i64 r) ∧ (w' = w.setCell ⟨b, i, none⟩ (.int .i64 s') ∨ (w' = w ∧ s = s'))
def Raw2 (b i s s' r r' : Nat) (w : World) (e : Ending) (w' : World) : Prop := e = .returned (.tuple #[.int .i64 r, .int .i64 r']) ∧ (w' = w.setCell ⟨b, i, none⟩ (.int .i64 s') ∨ (w' = w ∧ s = s'))
section
variable {w : World} {b : Nat}
theorem heardOn_raw (q o s : Nat) (m : Bool) (hc : w.cell? ⟨b, q + 256 + o, none⟩ = some (.int .i64 s)) (hc0 : w.cell? ⟨b, q + o, none⟩ = some (.bool m)) (hf : w.frozen? ⟨b, q + 256 + o, none⟩ = false) (ho : o < 256) (hs : s ≤ 5) :
    Calls Try.prog 100 #[.pointer (some ⟨b, q, none⟩), .int .u8 o] w (Raw1 b (q + 256 + o) s (onS m s).1 (onS m s).2 w) := by
  have hcase : s = 0 ∨ s = 1 ∨ s = 2 ∨ s = 3 ∨ s = 4 ∨ s = 5 := by omega
  rcases hcase with rfl | rfl | rfl | rfl | rfl | rfl
  · cases m
    · go_enter Try.func100, Try.ntmps100
      go_wp2
      go_ret
      exact ⟨rfl, .inr ⟨rfl, rfl⟩⟩
    · go_enter Try.func100, Try.ntmps100
      go_wp2
      go_ret
      exact ⟨rfl, .inl rfl⟩
  all_goals
    go_enter Try.func100, Try.ntmps100
    go_wp2
    go_ret
    first | exact ⟨rfl, .inl rfl⟩ | exact ⟨rfl, .inr ⟨rfl, rfl⟩⟩
theorem heardOff_raw (q o s : Nat) (hc : w.cell? ⟨b, q + 256 + o, none⟩ = some (.int .i64 s)) (hf : w.frozen? ⟨b, q + 256 + o, none⟩ = false) (ho : o < 256) (hs : s ≤ 5) :
    Calls Try.prog 101 #[.pointer (some ⟨b, q, none⟩), .int .u8 o] w (Raw1 b (q + 256 + o) s (offS s).1 (offS s).2 w) := by
  have hcase : s = 0 ∨ s = 1 ∨ s = 2 ∨ s = 3 ∨ s = 4 ∨ s = 5 := by omega
  rcases hcase with rfl | rfl | rfl | rfl | rfl | rfl
  all_goals
    go_enter Try.func101, Try.ntmps101
    go_wp2
    go_ret
    first | exact ⟨rfl, .inl rfl⟩ | exact ⟨rfl, .inr ⟨rfl, rfl⟩⟩
theorem wantOn_raw (q o s : Nat) (hc : w.cell? ⟨b, q + 256 + o, none⟩ = some (.int .i64 s)) (hf : w.frozen? ⟨b, q + 256 + o, none⟩ = false) (ho : o < 256) (hs : s ≤ 5) :
    Calls Try.prog 103 #[.pointer (some ⟨b, q, none⟩), .int .u8 o] w (Raw2 b (q + 256 + o) s (wantOnS s).1 (wantOnS s).2.1 (wantOnS s).2.2 w) := by
  have hcase : s = 0 ∨ s = 1 ∨ s = 2 ∨ s = 3 ∨ s = 4 ∨ s = 5 := by omega
  rcases hcase with rfl | rfl | rfl | rfl | rfl | rfl
  all_goals
    go_enter Try.func103, Try.ntmps103
    go_wp2
    go_ret2
    first | exact ⟨rfl, .inl rfl⟩ | exact ⟨rfl, .inr ⟨rfl, rfl⟩⟩
theorem wantOff_raw (q o s : Nat) (hc : w.cell? ⟨b, q + 256 + o, none⟩ = some (.int .i64 s)) (hf : w.frozen? ⟨b, q + 256 + o, none⟩ = false) (ho : o < 256) (hs : s ≤ 5) :
    Calls Try.prog 104 #[.pointer (some ⟨b, q, none⟩), .int .u8 o] w (Raw2 b (q + 256 + o) s (wantOffS s).1 (wantOffS s).2.1 (wantOffS s).2.2 w) := by
  have hcase : s = 0 ∨ s = 1 ∨ s = 2 ∨ s = 3 ∨ s = 4 ∨ s = 5 := by omega
  rcases hcase with rfl | rfl | rfl | rfl | rfl | rfl
  all_goals
    go_enter Try.func104, Try.ntmps104
    go_wp2
    go_ret2
    first | exact ⟨rfl, .inl rfl⟩ | exact ⟨rfl, .inr ⟨rfl, rfl⟩⟩
end
end Go.Proofs.Ytimidoaafllnkaa.Opt
