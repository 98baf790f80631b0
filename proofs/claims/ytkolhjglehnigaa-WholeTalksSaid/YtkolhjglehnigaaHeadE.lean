/-
  The statements' own example of headers.
-/
import Derived.Test.YtkolhjglehnigaaHeadEB
namespace Go.Proofs.Ytkolhjglehnigaa.Head
open Go.RowKit Base
set_option linter.unusedVariables false

def exB : List Int := [0, 0, 2, 0, 7, 241]
def zcnt : Array Value := #[.int .u16 0] ++ Array.replicate 64 (.int .u16 0) ++ #[.int .i64 0]
theorem own_lit {s : Nat} (w : World) (hs : s ≤ w.heap.size) (cs : Array Value) (L : List Int) (h : cs = (L.map (Value.int .u8)).toArray) (hl : L.length ≤ maxLen) (n : Nat) (hn : n = L.length) : OwnBytes s (w.alloc (.cells cs 5)) (.slice (some ⟨w.heap.size, 0, none⟩) n n) L := by
  subst h hn
  exact ⟨by simp, .inr ⟨w.heap.size, _, _, rfl, hs, heap_alloc_new w _, Nat.le_refl _, hl, by simp, by simpa using List.take_of_length_le (by simp)⟩⟩
theorem own_string {s : Nat} {w : World} {v : Value} {L : List Int} (h : OwnBytes s w v L) (d : Array UInt8) (hd : strOfNums L = ⟨d⟩) : (convert 24 9 v).run Try.prog w = .ok (.string ⟨d⟩) w := by rw [← hd]; exact row_str h.row
theorem parse_at (h : Hd) (M : List Int) (v : Value) (L : List Int) (w : World) (hL : L = hdL h ++ M) (hh : headOf (hdL h ++ M) = h) (hr : CutRow w v L) (hm : L.length ≤ 100000) (hby : ∀ x ∈ L, 0 ≤ x ∧ x < 256) (hx : h.ty ≤ 8) :
    Calls Try.prog 76 #[v] w fun e w' => ∃ p, e = .returned (.tuple #[.agg (hdA h), p, .int .i64 0]) ∧ OwnBytes w.heap.size w' p M ∧ Below w.heap.size w w' := by
  subst hL
  have := parse_ok v (hdL h ++ M) w hr (by simp [hdL]) hm hby (by simpa [hdL] using hx)
  rw [hh, show (hdL h ++ M).drop 5 = M from rfl] at this
  exact this
def exH : Hd := ⟨0, 0, 2, 7⟩
def exN : Hd := ⟨2, 0, 1, 7⟩
theorem exH_ok : exH.Ok := ⟨by decide, by decide, by decide, by decide, by decide, by decide, by decide, by decide⟩
theorem exN_ok : exN.Ok := ⟨by decide, by decide, by decide, by decide, by decide, by decide, by decide, by decide⟩
theorem hd0_ok : hd0.Ok := ⟨by decide, by decide, by decide, by decide, by decide, by decide, by decide, by decide⟩
theorem call_parse_ex (v : Value) (w : World) (hr : CutRow w v exB) : Calls Try.prog 76 #[v] w fun e w' => ∃ p, e = .returned (.tuple #[.agg #[.int .u8 0, .int .u8 0, .int .u8 2, .int .u16 7], p, .int .i64 0]) ∧ OwnBytes w.heap.size w' p [241] ∧ Below w.heap.size w w' :=
  parse_at exH [241] v exB w (by with_unfolding_all rfl) (by with_unfolding_all rfl) hr (by simp [exB]) (by decide) (by decide)
theorem call_parse_n (v : Value) (w : World) (hr : CutRow w v [2, 0, 1, 0, 7, 0]) : Calls Try.prog 76 #[v] w fun e w' => ∃ p, e = .returned (.tuple #[.agg #[.int .u8 2, .int .u8 0, .int .u8 1, .int .u16 7], p, .int .i64 0]) ∧ OwnBytes w.heap.size w' p [0] ∧ Below w.heap.size w w' :=
  parse_at exN [0] v [2, 0, 1, 0, 7, 0] w (by with_unfolding_all rfl) (by with_unfolding_all rfl) hr (by simp) (by decide) (by decide)
theorem call_write_ex (v : Value) (w : World) (hr : CutRow w v [241]) : Calls Try.prog 73 #[.agg #[.int .u8 0, .int .u8 0, .int .u8 2, .int .u16 7], v] w fun e w' => ∃ p, e = .returned p ∧ OwnBytes w.heap.size w' p exB ∧ Below w.heap.size w w' :=
  hwrite_any exH exH_ok v [241] w hr.1 (by
    obtain ⟨a, c, rfl, _, h⟩ := hr.2
    intro n c' e
    injection e with e1 e2 e3
    rw [← e3]; exact h e1) (by simp)
theorem short_ex {s : Nat} {w : World} (h : OwnBytes s w (.slice (some ⟨s, 0, none⟩) 6 6) exB) : Calls Try.prog 76 #[.slice (some ⟨s, 0, none⟩) 4 6] w fun e w' => e = .returned (.tuple #[.agg #[.int .u8 0, .int .u8 0, .int .u8 0, .int .u16 0], .slice none 0 0, .int .i64 20]) ∧ Below w.heap.size w w' := by
  refine parse_short _ [0, 0, 2, 0] w ?_ (by simp)
  obtain ⟨_, hc⟩ := RowOf.reads h.row
  refine ⟨_, 6, rfl, fun _ => ⟨s, 0, rfl, fun i hi => ?_⟩⟩
  have hi : i < 4 := hi
  have := hc i (.int .u8 ([0, 0, 2, 0][i]?.getD 0)) (by
    match i, hi with
    | 0, _ => rfl
    | 1, _ => rfl
    | 2, _ => rfl
    | 3, _ => rfl)
  rw [add_off] at this
  exact this
/-- The bytes and the header of the example. -/
structure ST (s : Nat) (w : World) (g : Nat) (r : Value) (W : World) : Prop where
  b : OwnBytes s W (.slice (some ⟨s, 0, none⟩) 6 6) exB
  r : OwnBytes s W r [241]
  blk : W.heap[g]? = some (.cells #[.int .u8 0, .int .u8 0, .int .u8 2, .int .u16 7] 116 (0, 0))
  old : Below s w W
section
variable {s : Nat} {w W W' : World} {g : Nat} {r : Value}
theorem ST.below (h : ST s w g r W) (hs : s ≤ W.heap.size) (t : Below W.heap.size W W') : ST s w g r W' := ⟨h.b.below t, h.r.below t, (t.block _ (lt_of_block h.blk)).trans h.blk, h.old.trans (t.mono hs)⟩
theorem ST.c4 (h : ST s w g r W) : W.cell? ⟨g, 0, none⟩ = some (.int .u8 0) ∧ W.cell? ⟨g, 1, none⟩ = some (.int .u8 0) ∧ W.cell? ⟨g, 2, none⟩ = some (.int .u8 2) ∧ W.cell? ⟨g, 3, none⟩ = some (.int .u16 7) :=
  ⟨by simp [World.cell?, h.blk], by simp [World.cell?, h.blk], by simp [World.cell?, h.blk], by simp [World.cell?, h.blk]⟩
theorem ST.lt (h : ST s w g r W) : s ≤ W.heap.size := by
  obtain ⟨g', cap, cur, e, h1, h2, _⟩ := h.b.2.resolve_left (fun h => by cases h.1)
  have := lt_of_block h2
  omega
end
structure QS (s : Nat) (w : World) (g : Nat) (r a n : Value) (W : World) : Prop where
  st : ST s w g r W
  a : OwnBytes s W a [2, 0, 0, 0, 7, 0]
  n : OwnBytes s W n [2, 0, 1, 0, 7, 0]
section
variable {s : Nat} {w W W' : World} {g : Nat} {r a n : Value}
theorem QS.below (h : QS s w g r a n W) (t : Below W.heap.size W W') : QS s w g r a n W' := ⟨h.st.below h.st.lt t, h.a.below t, h.n.below t⟩
theorem QS.sl (h : QS s w g r a n W) : W.cell? ⟨g, 0, none⟩ = some (.int .u8 0) ∧ W.cell? ⟨g, 1, none⟩ = some (.int .u8 0) ∧ W.cell? ⟨g, 2, none⟩ = some (.int .u8 2) ∧ W.cell? ⟨g, 3, none⟩ = some (.int .u16 7) ∧ (convert 24 9 r).run Try.prog W = .ok (.string ⟨#[241]⟩) W ∧ (convert 24 9 a).run Try.prog W = .ok (.string ⟨#[2, 0, 0, 0, 7, 0]⟩) W ∧ (convert 24 9 n).run Try.prog W = .ok (.string ⟨#[2, 0, 1, 0, 7, 0]⟩) W ∧ (convert 24 9 (.slice (some ⟨s, 0, none⟩) 6 6)).run Try.prog W = .ok (.string ⟨#[0, 0, 2, 0, 7, 241]⟩) W ∧ QS s w g r a n W := by
  obtain ⟨c0, c1, c2, c3⟩ := h.st.c4
  exact ⟨c0, c1, c2, c3, own_string h.st.r #[241] (by with_unfolding_all rfl), own_string h.a #[2, 0, 0, 0, 7, 0] (by with_unfolding_all rfl), own_string h.n #[2, 0, 1, 0, 7, 0] (by with_unfolding_all rfl), own_string h.st.b #[0, 0, 2, 0, 7, 241] (by with_unfolding_all rfl), h⟩
end
end Go.Proofs.Ytkolhjglehnigaa.Head
