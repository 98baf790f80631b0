/-
  The decoder, plainly and in memory: what a byte of a subnegotiation is kept as.
-/
import Derived.Test.YtimidoaafllnkaaEvs
import Derived.StillTailTactics
import Derived.Deep.WholeRow
import Derived.Laws.ResultCell
import Derived.Lib.LazyBuf
namespace Go.Proofs.Ytimidoaafllnkaa.Iac
open Go.RowKit Base
set_option linter.unusedVariables false

/-! ### Plainly -/
structure Dec where
  state : Nat
  verb : Int
  named : Bool
  option : Int
  bytes : List Int
  long : Bool
def dec0 : Dec := ⟨0, 0, false, 0, [], false⟩
def keepD (D : Dec) (x : Int) : Dec :=
  if D.named = false then { D with named := true, option := x }
  else if D.bytes.length < 256 then { D with bytes := D.bytes ++ [x] }
  else { D with long := true }
def badE (D : Dec) : Ev := ⟨7, 0, D.option, []⟩
def eventE (D : Dec) : Ev := if D.named = false then badE D else ⟨if D.long = true then 6 else 5, 0, D.option, D.bytes⟩

/-! ### In memory -/
structure DecC (A : Array Value) (D : Dec) : Prop where
  size : A.size = 262
  state : A[0]? = some (.int .i64 D.state)
  verb : A[1]? = some (.int .u8 D.verb)
  named : A[2]? = some (.bool D.named)
  option : A[3]? = some (.int .u8 D.option)
  cells : ∀ i, i < 256 → ∃ x : Int, A[4 + i]? = some (.int .u8 x)
  bytes : ∀ i, i < D.bytes.length → A[4 + i]? = some (.int .u8 (D.bytes[i]?.getD 0))
  many : A[260]? = some (.int .i64 D.bytes.length)
  long : A[261]? = some (.bool D.long)
  le : D.bytes.length ≤ 256
def DecAt (w : World) (b : Nat) (D : Dec) : Prop := ∃ A, w.heap[b]? = some (.cells A 102 (0, 0)) ∧ DecC A D
section
variable {A : Array Value} {D : Dec}
theorem DecC.setState (h : DecC A D) (n : Nat) : DecC (A.setIfInBounds 0 (.int .i64 n)) { D with state := n } := by
  have hs := h.size
  refine ⟨by simpa using hs, ?_, ?_, ?_, ?_, fun i hi => ?_, fun i hi => ?_, ?_, ?_, h.le⟩
  · rw [Array.getElem?_setIfInBounds, if_pos rfl, if_pos (by omega)]
  · rw [Array.getElem?_setIfInBounds, if_neg (by omega)]; exact h.verb
  · rw [Array.getElem?_setIfInBounds, if_neg (by omega)]; exact h.named
  · rw [Array.getElem?_setIfInBounds, if_neg (by omega)]; exact h.option
  · rw [Array.getElem?_setIfInBounds, if_neg (by omega)]; exact h.cells i hi
  · rw [Array.getElem?_setIfInBounds, if_neg (by omega)]; exact h.bytes i hi
  · rw [Array.getElem?_setIfInBounds, if_neg (by omega)]; exact h.many
  · rw [Array.getElem?_setIfInBounds, if_neg (by omega)]; exact h.long
theorem DecC.setVerb (h : DecC A D) (n : Int) : DecC (A.setIfInBounds 1 (.int .u8 n)) { D with verb := n } := by
  have hs := h.size
  refine ⟨by simpa using hs, ?_, ?_, ?_, ?_, fun i hi => ?_, fun i hi => ?_, ?_, ?_, h.le⟩
  · rw [Array.getElem?_setIfInBounds, if_neg (by omega)]; exact h.state
  · rw [Array.getElem?_setIfInBounds, if_pos rfl, if_pos (by omega)]
  · rw [Array.getElem?_setIfInBounds, if_neg (by omega)]; exact h.named
  · rw [Array.getElem?_setIfInBounds, if_neg (by omega)]; exact h.option
  · rw [Array.getElem?_setIfInBounds, if_neg (by omega)]; exact h.cells i hi
  · rw [Array.getElem?_setIfInBounds, if_neg (by omega)]; exact h.bytes i hi
  · rw [Array.getElem?_setIfInBounds, if_neg (by omega)]; exact h.many
  · rw [Array.getElem?_setIfInBounds, if_neg (by omega)]; exact h.long
theorem DecC.setName (h : DecC A D) (n : Int) : DecC ((A.setIfInBounds 2 (.bool true)).setIfInBounds 3 (.int .u8 n)) { D with named := true, option := n } := by
  have hs := h.size
  have hs' : (A.setIfInBounds 2 (.bool true)).size = 262 := by simpa using hs
  refine ⟨by simpa using hs, ?_, ?_, ?_, ?_, fun i hi => ?_, fun i hi => ?_, ?_, ?_, h.le⟩
  · rw [Array.getElem?_setIfInBounds, if_neg (by omega), Array.getElem?_setIfInBounds, if_neg (by omega)]; exact h.state
  · rw [Array.getElem?_setIfInBounds, if_neg (by omega), Array.getElem?_setIfInBounds, if_neg (by omega)]; exact h.verb
  · rw [Array.getElem?_setIfInBounds, if_neg (by omega), Array.getElem?_setIfInBounds, if_pos rfl, if_pos (by omega)]
  · rw [Array.getElem?_setIfInBounds, if_pos rfl, if_pos (by omega)]
  · rw [Array.getElem?_setIfInBounds, if_neg (by omega), Array.getElem?_setIfInBounds, if_neg (by omega)]; exact h.cells i hi
  · rw [Array.getElem?_setIfInBounds, if_neg (by omega), Array.getElem?_setIfInBounds, if_neg (by omega)]; exact h.bytes i hi
  · rw [Array.getElem?_setIfInBounds, if_neg (by omega), Array.getElem?_setIfInBounds, if_neg (by omega)]; exact h.many
  · rw [Array.getElem?_setIfInBounds, if_neg (by omega), Array.getElem?_setIfInBounds, if_neg (by omega)]; exact h.long
theorem DecC.setByte (h : DecC A D) (x : Int) (hl : D.bytes.length < 256) : DecC ((A.setIfInBounds (4 + D.bytes.length) (.int .u8 x)).setIfInBounds 260 (.int .i64 (D.bytes.length + 1 : Nat))) { D with bytes := D.bytes ++ [x] } := by
  have hs := h.size
  have hs' : (A.setIfInBounds (4 + D.bytes.length) (.int .u8 x)).size = 262 := by simpa using hs
  refine ⟨by simpa using hs, ?_, ?_, ?_, ?_, fun i hi => ?_, fun i hi => ?_, ?_, ?_, by simp; omega⟩
  · rw [Array.getElem?_setIfInBounds, if_neg (by omega), Array.getElem?_setIfInBounds, if_neg (by omega)]; exact h.state
  · rw [Array.getElem?_setIfInBounds, if_neg (by omega), Array.getElem?_setIfInBounds, if_neg (by omega)]; exact h.verb
  · rw [Array.getElem?_setIfInBounds, if_neg (by omega), Array.getElem?_setIfInBounds, if_neg (by omega)]; exact h.named
  · rw [Array.getElem?_setIfInBounds, if_neg (by omega), Array.getElem?_setIfInBounds, if_neg (by omega)]; exact h.option
  · rw [Array.getElem?_setIfInBounds, if_neg (by omega), Array.getElem?_setIfInBounds]
    by_cases e : 4 + D.bytes.length = 4 + i
    · rw [if_pos e, if_pos (by omega)]; exact ⟨_, rfl⟩
    · rw [if_neg e]; exact h.cells i hi
  · have hi' : i < D.bytes.length + 1 := by simpa using hi
    rw [Array.getElem?_setIfInBounds, if_neg (by omega), Array.getElem?_setIfInBounds]
    by_cases e : 4 + D.bytes.length = 4 + i
    · rw [if_pos e, if_pos (by omega)]
      obtain rfl : i = D.bytes.length := by omega
      simp
    · rw [if_neg e, h.bytes i (by omega), List.getElem?_append_left (by omega)]
  · rw [Array.getElem?_setIfInBounds, if_pos rfl, if_pos (by omega)]; simp
  · rw [Array.getElem?_setIfInBounds, if_neg (by omega), Array.getElem?_setIfInBounds, if_neg (by omega)]; exact h.long
theorem DecC.setLong (h : DecC A D) : DecC (A.setIfInBounds 261 (.bool true)) { D with long := true } := by
  have hs := h.size
  refine ⟨by simpa using hs, ?_, ?_, ?_, ?_, fun i hi => ?_, fun i hi => ?_, ?_, ?_, h.le⟩
  · rw [Array.getElem?_setIfInBounds, if_neg (by omega)]; exact h.state
  · rw [Array.getElem?_setIfInBounds, if_neg (by omega)]; exact h.verb
  · rw [Array.getElem?_setIfInBounds, if_neg (by omega)]; exact h.named
  · rw [Array.getElem?_setIfInBounds, if_neg (by omega)]; exact h.option
  · rw [Array.getElem?_setIfInBounds, if_neg (by omega)]; exact h.cells i hi
  · have hi : i < D.bytes.length := hi
    have hle := h.le
    rw [Array.getElem?_setIfInBounds, if_neg (by omega)]; exact h.bytes i hi
  · rw [Array.getElem?_setIfInBounds, if_neg (by omega)]; exact h.many
  · rw [Array.getElem?_setIfInBounds, if_pos rfl, if_pos (by omega)]
variable {w w' : World} {b : Nat}
theorem DecAt.lt (h : DecAt w b D) : b < w.heap.size := by obtain ⟨A, h, _⟩ := h; exact lt_of_block h
theorem DecAt.kept (h : DecAt w b D) (e : w'.heap[b]? = w.heap[b]?) : DecAt w' b D := by obtain ⟨A, h, k⟩ := h; exact ⟨A, e.trans h, k⟩
theorem DecAt.turn {T : Nat → Prop} (h : DecAt w b D) (t : Turn T w w') (hT : ¬ T b) : DecAt w' b D := h.kept (t.block b h.lt hT)
theorem DecAt.below (h : DecAt w b D) (t : Below w.heap.size w w') : DecAt w' b D := h.kept (t.block b h.lt)
theorem DecAt.cell (h : DecAt w b D) : w.cell? ⟨b, 0, none⟩ = some (.int .i64 D.state) ∧ w.cell? ⟨b, 1, none⟩ = some (.int .u8 D.verb) ∧ w.cell? ⟨b, 2, none⟩ = some (.bool D.named) ∧ w.cell? ⟨b, 3, none⟩ = some (.int .u8 D.option) ∧ w.cell? ⟨b, 260, none⟩ = some (.int .i64 D.bytes.length) ∧ w.cell? ⟨b, 261, none⟩ = some (.bool D.long) := by
  obtain ⟨A, h, k⟩ := h
  exact ⟨by simp [World.cell?, h, k.state], by simp [World.cell?, h, k.verb], by simp [World.cell?, h, k.named], by simp [World.cell?, h, k.option], by simp [World.cell?, h, k.many], by simp [World.cell?, h, k.long]⟩
theorem DecAt.frozen (h : DecAt w b D) (o : Nat) : w.frozen? ⟨b, o, none⟩ = false := by obtain ⟨A, h, k⟩ := h; simp [World.frozen?, h]
theorem DecAt.byteCell (h : DecAt w b D) (i : Nat) (hi : i < 256) : ∃ x : Int, w.cell? ⟨b, 4 + i, none⟩ = some (.int .u8 x) := by
  obtain ⟨A, h, k⟩ := h
  obtain ⟨x, hx⟩ := k.cells i hi
  exact ⟨x, by simp [World.cell?, h, hx]⟩
theorem DecAt.le (h : DecAt w b D) : D.bytes.length ≤ 256 := by obtain ⟨A, h, k⟩ := h; exact k.le
theorem DecAt.row (h : DecAt w b D) (c : Nat) : RowOf .u8 w (.slice (some ⟨b, 4, none⟩) D.bytes.length c) D.bytes := by
  obtain ⟨A, h, k⟩ := h
  exact ⟨_, c, rfl, fun _ => ⟨b, 4, rfl, fun i hi => by simp [World.cell?, h, k.bytes i hi]⟩⟩
theorem DecAt.setState (h : DecAt w b D) (n : Nat) : DecAt (w.setCell ⟨b, 0, none⟩ (.int .i64 n)) b { D with state := n } := by
  obtain ⟨A, h, k⟩ := h; exact ⟨_, heap_set h _ _, k.setState n⟩
theorem DecAt.setVerb (h : DecAt w b D) (n : Int) : DecAt (w.setCell ⟨b, 1, none⟩ (.int .u8 n)) b { D with verb := n } := by
  obtain ⟨A, h, k⟩ := h; exact ⟨_, heap_set h _ _, k.setVerb n⟩
theorem DecAt.setName (h : DecAt w b D) (n : Int) : DecAt ((w.setCell ⟨b, 2, none⟩ (.bool true)).setCell ⟨b, 3, none⟩ (.int .u8 n)) b { D with named := true, option := n } := by
  obtain ⟨A, h, k⟩ := h; exact ⟨_, heap_set (heap_set h _ _) _ _, k.setName n⟩
theorem DecAt.setByte (h : DecAt w b D) (x : Int) (hl : D.bytes.length < 256) : DecAt ((w.setCell ⟨b, 4 + D.bytes.length, none⟩ (.int .u8 x)).setCell ⟨b, 260, none⟩ (.int .i64 (D.bytes.length + 1 : Nat))) b { D with bytes := D.bytes ++ [x] } := by
  obtain ⟨A, h, k⟩ := h; exact ⟨_, heap_set (heap_set h _ _) _ _, k.setByte x hl⟩
theorem DecAt.setLong (h : DecAt w b D) : DecAt (w.setCell ⟨b, 261, none⟩ (.bool true)) b { D with long := true } := by
  obtain ⟨A, h, k⟩ := h; exact ⟨_, heap_set h _ _, k.setLong⟩
theorem turn_set2 (W : World) (b o o' : Nat) (x y : Value) : Turn (At b) W ((W.setCell ⟨b, o, none⟩ x).setCell ⟨b, o', none⟩ y) := (turn_set W b o x).trans (turn_set _ b o' y)
end
set_option maxHeartbeats 2000000 in
theorem keep_any {w : World} {b : Nat} {D : Dec} (x : Int) (h : DecAt w b D) :
    Calls Try.prog 119 #[.pointer (some ⟨b, 2, none⟩), .int .u8 x] w fun e w' => e = .returned (.tuple #[]) ∧ DecAt w' b (keepD D x) ∧ Turn (At b) w w' := by
  obtain ⟨c0, c1, c2, c3, c4, c5⟩ := h.cell
  have f2 := h.frozen 2
  have f3 := h.frozen 3
  have f260 := h.frozen 260
  have f261 := h.frozen 261
  have hle := h.le
  have H := Lib.hid h
  obtain ⟨st, vb, nm, op, by', lg⟩ := D
  simp only at c0 c1 c2 c3 c4 c5 hle
  obtain ⟨n, hn⟩ : ∃ n, n = by'.length := ⟨_, rfl⟩
  rw [← hn] at c4 hle
  have HN := Lib.hid hn
  clear hn c0 c1
  cases nm
  · clear c4 hle
    go_enter Try.func119, Try.ntmps119
    go_wp2
    refine bodyPost_end (results_none rfl _ _ _) rfl ?_
    exact ⟨rfl, H.out.setName x, turn_set2 w b _ _ _ _⟩
  · by_cases hl : n < 256
    · obtain ⟨y, hy⟩ := h.byteCell n hl
      have fy := h.frozen (4 + n)
      have hli : (n : Int) < 256 := by omega
      have gw : IntKind.i64.wrap ((n : Int) + 1) = (n : Int) + 1 := IntWalk.i64_in _ (by omega)
      clear h
      go_enter Try.func119, Try.ntmps119
      go_wp2
      go_region
      go_wp2
      refine bodyPost_end (results_none rfl _ _ _) rfl ?_
      have hd := H.out.setByte x (by rw [← HN.out]; exact hl)
      rw [← HN.out, show ((n + 1 : Nat) : Int) = (n : Int) + 1 from by omega] at hd
      refine ⟨rfl, ?_, (turn_set2 w b _ _ _ _).drew⟩
      unfold keepD
      rw [if_neg (by simp), if_pos (by have := HN.out; show by'.length < 256; omega)]
      exact hd
    · have hl' : (256 : Int) ≤ n := by omega
      obtain rfl : n = 256 := by omega
      clear h
      go_enter Try.func119, Try.ntmps119
      go_wp2
      refine bodyPost_end (results_none rfl _ _ _) rfl ?_
      exact ⟨rfl, by unfold keepD; rw [if_neg (by simp), if_neg (by have := HN.out; show ¬ by'.length < 256; omega)]; exact H.out.setLong, turn_set w b _ _⟩

/-! ### A row as new memory -/
theorem own0 {s : Nat} {w : World} (h : s ≤ w.heap.size) : OwnBytes s (w.alloc (.cells #[] 5)) (.slice (some ⟨w.heap.size, 0, none⟩) 0 0) [] :=
  ⟨rfl, .inr ⟨w.heap.size, 0, #[], rfl, h, heap_alloc_new w _, by simp, by simp [maxLen], rfl, by simp⟩⟩
set_option maxRecDepth 100000 in
set_option maxHeartbeats 4000000 in
theorem clone_any (v : Value) (L : List Int) (w : World) (h : RowOf .u8 w v L) (hl : L.length ≤ 100000) :
    Calls Try.prog 66 #[v] w fun e w' => ∃ p, e = .returned p ∧ OwnBytes w.heap.size w' p L ∧ Below w.heap.size w w' := by
  obtain ⟨i0, hi, hz0, hz1, hz2⟩ := info_parts info_byte
  have heq : ∀ (w : World) (a : Option Addr) (l c : Nat), (binOp .eql 24 (.slice a l c) (.slice none 0 0)).run Try.prog w = .ok (.bool a.isNone) w := fun w a l c => run_eql_slice_nil w 24 5 a l c Try.underlying24
  obtain ⟨a, cap, rfl, hrow⟩ := h
  cases a with
  | none =>
    have h0 : L = [] := by
      by_cases hne : L = []
      · exact hne
      · obtain ⟨b, off, e, _⟩ := hrow hne
        cases e
    subst h0
    go_enter Try.func66, Try.ntmps66
    go_wp2
    go_ret
    exact ⟨_, rfl, OwnBytes.nil _ _, Below.refl _ _⟩
  | some ad =>
    have hc : ∀ (j : Nat) (u : Value), (L.map (Value.int .u8))[j]? = some u → (w.alloc (.cells #[] 5)).cell? (ad.add j) = some u := by
      intro j u hu
      have hj : j < L.length := by have := (List.getElem?_eq_some_iff.1 hu).1; simpa using this
      obtain ⟨b, off, e, hcell⟩ := hrow (by intro e; rw [e] at hj; simp at hj)
      cases e
      have h1 := hcell j hj
      have e2 : (⟨b, off, none⟩ : Addr).add j = ⟨b, off + j, none⟩ := by unfold Addr.add; split <;> simp_all
      rw [e2, (below_alloc w _).cell (World.block_lt_of_cell? w ⟨b, off + j, none⟩ h1), h1]
      rw [List.getElem?_map, List.getElem?_eq_getElem hj] at hu
      simp [hj] at hu ⊢
      exact hu
    have HC := Lib.hid hc
    have hraw := own0 (Nat.le_refl w.heap.size)
    have HB := Lib.hid (below_alloc w (.cells #[] 5))
    obtain ⟨W, hW⟩ : ∃ W, W = w.alloc (.cells #[] 5) := ⟨_, rfl⟩
    have hzz : W.heap.size = w.heap.size + 1 := by rw [hW, World.size_alloc]
    rw [← hW] at HC hraw HB
    have HRAW := Lib.hid hraw
    unfold OwnBytes at hraw
    have hraw : W.ownsRow w.heap.size 5 1 (.slice (some ⟨w.heap.size, 0, none⟩) 0 0) 0 [] := hraw
    have hln : (L.map (Value.int .u8)).length = L.length * 1 := by rw [List.length_map]; omega
    have HW := Lib.hid hW.symm
    have HZ := Lib.hid hzz
    obtain ⟨n, hn⟩ : ∃ n, n = L.length := ⟨_, rfl⟩
    have HN := Lib.hid hn
    rw [← hn] at hln hl ⊢
    clear hW hc hrow hzz hn
    go_enter Try.func66, Try.ntmps66
    go_wp2_with (at_builtin; rw [HW.out]; refine wpList_append_own _ rfl _ _ 24 rfl w.heap.size 5 i0 (.int .u8 0) 1 1 Try.underlying24 hi hz0 hz1 hz2 rfl (by decide) _ _ _ rfl hraw ad n cap (L.map (Value.int .u8)) rfl hln HC.out (bytes_one _) (by unfold maxLen; omega) (by omega) (by rw [HZ.out]; omega) ?_; intro v' w5 hown' hgrow _)
    go_ret
    obtain ⟨h1, h2⟩ := HRAW.out.grown0 (X := L) (by rw [← HN.out]; exact hown') hgrow HB.out (by rw [HZ.out]; omega)
    exact ⟨_, rfl, h1, h2⟩
set_option maxRecDepth 100000 in
set_option maxHeartbeats 4000000 in
theorem copied_any {w : World} {b : Nat} {D : Dec} (h : DecAt w b D) :
    Calls Try.prog 141 #[.pointer (some ⟨b, 2, none⟩)] w fun e w' => ∃ p, e = .returned p ∧ OwnBytes w.heap.size w' p D.bytes ∧ Below w.heap.size w w' := by
  obtain ⟨_, _, _, _, c4, _⟩ := h.cell
  have hle := h.le
  have hrow : RowOf .u8 w.drew (.slice (some ⟨b, 4, none⟩) D.bytes.length 256) D.bytes := h.row 256
  obtain ⟨n, hn⟩ : ∃ n, n = D.bytes.length := ⟨_, rfl⟩
  rw [← hn] at c4 hle hrow
  have HR := Lib.hid hrow
  have HN := Lib.hid hn
  have HC4 := Lib.hid c4
  have HBL := Lib.hid h.lt
  clear h hn hrow
  have hli : (n : Int) ≤ 256 := by omega
  go_enter Try.func141, Try.ntmps141
  go_upto_region 1 with fail
  first
  | (go_region_held3 (fun w' => w'.cell? ⟨b, 260, none⟩ = some (.int .i64 n)) (first | assumption)
      (first | (go_at_call 66; refine (clone_any _ D.bytes _ HR.out (by rw [← HN.out]; omega)).mono ?_; rintro e w2 ⟨p, rfl, R, b1⟩; have k4 := (b1.cell (p := ⟨b, 260, none⟩) HBL.out).trans HC4.out)))
  | fail
  all_goals
    go_wp2
    go_ret
    exact ⟨p, rfl, R, (Below.refl _ w).drew.trans b1⟩
theorem size_ev : (Try.prog.info? 26).map (·.size) = some 4 := by kernel_rfl
set_option maxRecDepth 100000 in
set_option maxHeartbeats 4000000 in
theorem bad_any {w : World} {b : Nat} {D : Dec} (h : DecAt w b D) :
    Calls Try.prog 133 #[.pointer (some ⟨b, 2, none⟩)] w fun e w' => e = .returned (.agg #[.int .i64 7, .int .u8 0, .int .u8 D.option, .slice none 0 0]) ∧ Below w.heap.size w w' := by
  obtain ⟨_, _, _, c3, _, _⟩ := h.cell
  have hz := (zero_of_info (v := .agg #[.int .i64 0, .int .u8 0, .int .u8 0, .slice none 0 0]) (n := 4) (P := Try.prog) (t := 26) (by kernel_rfl)).1
  have c3' := fun o => ((below_alloc w o).cell (p := ⟨b, 3, none⟩) h.lt).trans c3
  go_enter Try.func133, Try.ntmps133
  go_wp2
  refine bodyPost_ret (results_cell_row rfl _ _ w.heap.size 26 _ (0, 0) _ rfl (heap_alloc_new w _) Try.underlying26 rfl size_ev) rfl ?_
  exact ⟨rfl, below_alloc w _⟩
end Go.Proofs.Ytimidoaafllnkaa.Iac
