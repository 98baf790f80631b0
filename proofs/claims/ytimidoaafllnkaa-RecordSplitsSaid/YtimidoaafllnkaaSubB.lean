/-
  The reference's sub: its contract.
-/
import Derived.Test.YtimidoaafllnkaaSubA
import Derived.Test.YtimidoaafllnkaaRefW
import Derived.Laws.Rows
import Derived.Laws.ResultCell
import Derived.Deep.DeepCutAuto
namespace Go.Proofs.Ytimidoaafllnkaa.Iac
open Go.RowKit Base
set_option linter.unusedVariables false
set_option linter.unusedSimpArgs false

theorem info_revent4 : (Try.prog.info? 32).map (fun i => (i.zero, i.size)) = some (some (.agg #[.int .i64 0, .int .u8 0, .int .u8 0, .slice none 0 0]), 4) := by kernel_rfl
theorem size_re : (Try.prog.info? 32).map (·.size) = some 4 := by kernel_rfl
theorem results_row_tmp {fn : Func} {p u : Tmp} {ty : TypeId} (h : fn.results = #[.cell p ty, .tmp u]) (tmps : Array Value) (w : World) (g : Nat) (cs : Array Value)
    (hp : tmps.getD p undef = .pointer (some ⟨g, 0, none⟩)) (hrun : (loadVar ty ⟨g, 0, none⟩).run Try.prog w = .ok (.agg cs) w) :
    (results fn tmps).run Try.prog w = .ok (.tuple #[.agg cs, tmps.getD u undef]) w := by
  rw [results_cell_tmp h, hp]
  simp [asAddr, hrun, Result.andThen]
theorem load_re {g : Nat} {W : World} {cs : Array Value} (hr : W.heap[g]? = some (.cells cs 32 (0, 0))) (hs : cs.size = 4) : (loadVar 32 ⟨g, 0, none⟩).run Try.prog W = .ok (.agg cs) W :=
  run_loadVar_row _ g 32 32 cs (0, 0) _ hr Try.underlying32 rfl (by rw [hs]; exact size_re)
def put4r (W : World) (g : Nat) (a b c d : Value) : World := (((W.setCell ⟨g, 0, none⟩ a).setCell ⟨g, 1, none⟩ b).setCell ⟨g, 2, none⟩ c).setCell ⟨g, 3, none⟩ d
theorem laid4r {W : World} {g : Nat} {t : TypeId} {p q r s : Value} (h : W.heap[g]? = some (.cells #[p, q, r, s] t (0, 0))) (a b c d : Value) : (put4r W g a b c d).heap[g]? = some (.cells #[a, b, c, d] t (0, 0)) := by
  have h1 := heap_set (heap_set (heap_set (heap_set h 0 a) 1 b) 2 c) 3 d
  unfold put4r
  rw [h1]
  rfl
theorem put4r_turn (W : World) (g : Nat) (a b c d : Value) : Turn (At g) W (put4r W g a b c d) := (((turn_set _ _ _ _).trans (turn_set _ _ _ _)).trans (turn_set _ _ _ _)).trans (turn_set _ _ _ _)
theorem own_nil (s : Nat) (W : World) : OwnBytes s W (.slice none 0 0) [] := ⟨rfl, .inl ⟨rfl, rfl⟩⟩
theorem own_at {s : Nat} {W W' : World} {u : Value} {L : List Int} {g : Nat} {cs : Array Value} (h : OwnBytes s W u L) (hb : W.heap[g]? = some (.cells cs 32 (0, 0))) (t : Turn (At g) W W') : OwnBytes s W' u L :=
  ownsRow_keep h fun k hk _ hl => t.block k hl (by
    rintro rfl
    obtain ⟨c, fz, h1⟩ := Lib.ownsRow_kind h k hk
    rw [h1] at hb
    cases hb)
def SubOut (b : List Int) (a0 : Nat) (kd : Int) (nx : Nat) : Prop :=
  (nx = 0 ∧ ∃ st nm, (st = 3 ∨ st = 4) ∧ Subbing (b.drop a0) st nm) ∨
  (a0 < nx ∧ nx ≤ b.length ∧ (kd = 5 ∨ kd = 6) ∧ Subbed ((b.drop a0).take (nx - a0))) ∨
  (a0 < nx ∧ nx < b.length ∧ kd = 7 ∧ ∃ nm c, Subbing ((b.drop a0).take (nx - a0)) 4 nm ∧ b[nx]? = some c ∧ c ≠ 255 ∧ (c = 240 → nm = false))
def SubP (b : List Int) (a0 : Nat) (w : World) (e : Ending) (w' : World) : Prop :=
  ∃ (kd opt : Int) (u : Value) (nx : Nat) (Lb : List Int), e = .returned (.tuple #[.agg #[.int .i64 kd, .int .u8 0, .int .u8 opt, u], .int .i64 nx]) ∧ OwnBytes w.heap.size w' u Lb ∧ Lb.length ≤ 256 ∧ Below w.heap.size w w' ∧ SubOut b a0 kd nx
theorem SubP.mk {b : List Int} {a0 s : Nat} {w W : World} (hs : w.heap.size = s) (hold : Below w.heap.size w W) {p q r t : Value} (hr : W.heap[s]? = some (.cells #[p, q, r, t] 32 (0, 0))) {kd opt : Int} {u : Value} {nx : Nat} {Lb : List Int} (hu : OwnBytes w.heap.size W u Lb) (hl : Lb.length ≤ 256) (ho : SubOut b a0 kd nx) :
    SubP b a0 w (.returned (.tuple #[.agg #[.int .i64 kd, .int .u8 0, .int .u8 opt, u], .int .i64 nx])) (put4r W s (.int .i64 kd) (.int .u8 0) (.int .u8 opt) u) := by
  have t := put4r_turn W s (.int .i64 kd) (.int .u8 0) (.int .u8 opt) u
  exact ⟨kd, opt, u, nx, Lb, rfl, own_at hu hr t, hl, hold.trans (t.at_below hold.size (by omega)), ho⟩
/-- What sub holds: its result's box, and the event's behind it; v: the event's bytes, u: what its box says of them. -/
structure SubQ (w : World) (s : Nat) (kd opt : Int) (B : List Int) (u v : Value) (W : World) : Prop where
  res : W.heap[s]? = some (.cells #[.int .i64 0, .int .u8 0, .int .u8 0, .slice none 0 0] 32 (0, 0))
  eb : W.heap[s + 1]? = some (.cells #[.int .i64 kd, .int .u8 0, .int .u8 opt, u] 32 (0, 0))
  own : OwnBytes w.heap.size W v B
  old : Below w.heap.size w W
  lo : w.heap.size = s
section
variable {w W W' : World} {s : Nat} {kd opt : Int} {B : List Int} {u v : Value}
theorem SubQ.rc (h : SubQ w s kd opt B u v W) : W.cell? ⟨s, 0, none⟩ = some (.int .i64 0) ∧ W.cell? ⟨s, 1, none⟩ = some (.int .u8 0) ∧ W.cell? ⟨s, 2, none⟩ = some (.int .u8 0) ∧ W.cell? ⟨s, 3, none⟩ = some (.slice none 0 0) ∧ ∀ o, W.frozen? ⟨s, o, none⟩ = false := by
  have := h.res
  exact ⟨by simp [World.cell?, this], by simp [World.cell?, this], by simp [World.cell?, this], by simp [World.cell?, this], fun o => by simp [World.frozen?, this]⟩
theorem SubQ.ec (h : SubQ w s kd opt B u v W) : W.cell? ⟨s + 1, 0, none⟩ = some (.int .i64 kd) ∧ W.cell? ⟨s + 1, 1, none⟩ = some (.int .u8 0) ∧ W.cell? ⟨s + 1, 2, none⟩ = some (.int .u8 opt) ∧ W.cell? ⟨s + 1, 3, none⟩ = some u ∧ ∀ o, W.frozen? ⟨s + 1, o, none⟩ = false := by
  have := h.eb
  exact ⟨by simp [World.cell?, this], by simp [World.cell?, this], by simp [World.cell?, this], by simp [World.cell?, this], fun o => by simp [World.frozen?, this]⟩
theorem SubQ.more {c : Int} {o : Obj} {v' : Value} (h : SubQ w s kd opt B u v W) (hown : W'.ownsRow w.heap.size 5 1 v' (B.length + 1) (B.map (Value.int .u8) ++ [.int .u8 c])) (hg : (W.alloc o).grownBy W' v.ownBlock) : SubQ w s kd opt (B ++ [c]) u v' W' := by
  obtain ⟨h1, h2⟩ := h.own.grown (X := [c]) hown hg h.old h.old.size
  have ne : ∀ g (cs : Array Value), W.heap[g]? = some (Obj.cells cs 32 (0, 0)) → v.ownBlock ≠ some g := fun g cs hb e => by
    obtain ⟨c, fz, h1⟩ := Lib.ownsRow_kind h.own g e
    rw [h1] at hb
    cases hb
  have al : ∀ g, g < W.heap.size → (W.alloc o).heap[g]? = W.heap[g]? := fun g hl => Below.heap_alloc W o g hl
  have st : ∀ g (cs : Array Value), W.heap[g]? = some (Obj.cells cs 32 (0, 0)) → W'.heap[g]? = some (Obj.cells cs 32 (0, 0)) := fun g cs hb =>
    (hg.block g (by rw [World.size_alloc]; have := lt_of_block hb; omega) fun e => ne g cs hb e.symm).trans ((al g (lt_of_block hb)).trans hb)
  exact ⟨st _ _ h.res, st _ _ h.eb, h1, h2, h.lo⟩
theorem SubQ.putU (h : SubQ w s kd opt B u v W) : SubQ w s kd opt B v v (W.setCell ⟨s + 1, 3, none⟩ v) := by
  have t := turn_set W (s + 1) 3 v
  have hlo := h.lo
  exact ⟨(t.block s (lt_of_block h.res) (by unfold At; omega)).trans h.res, heap_set h.eb 3 v, own_at h.own h.eb t, h.old.trans (t.at_below h.old.size (by omega)), h.lo⟩
theorem SubQ.putK (h : SubQ w s kd opt B u v W) (kd' : Int) : SubQ w s kd' opt B u v (W.setCell ⟨s + 1, 0, none⟩ (.int .i64 kd')) := by
  have t := turn_set W (s + 1) 0 (.int .i64 kd')
  have hlo := h.lo
  exact ⟨(t.block s (lt_of_block h.res) (by unfold At; omega)).trans h.res, heap_set h.eb 0 (.int .i64 kd'), own_at h.own h.eb t, h.old.trans (t.at_below h.old.size (by omega)), h.lo⟩
end
set_option maxRecDepth 100000 in
set_option maxHeartbeats 16000000 in
theorem rsub_any (v : Value) (b : List Int) (a0 : Nat) (w : World) (h : RowOf .u8 w v b) (hl : b.length ≤ 40000) (ha : a0 ≤ b.length) :
    Calls Try.prog 117 #[v, .int .i64 (a0 : Nat)] w (SubP b a0 w) := by
  obtain ⟨i0, hi, hz0, hz1, hz2⟩ := info_parts info_byte
  have hzero := (zero_of_info info_revent4).1
  obtain ⟨a, cap, rfl, hrow⟩ := h
  obtain ⟨n, hn⟩ : ∃ n, n = b.length := ⟨_, rfl⟩
  rw [← hn] at hl ha ⊢
  have HN := Lib.hid hn
  have HR := Lib.hid hrow
  obtain ⟨W0, hW⟩ : ∃ W0, W0 = w.alloc (.cells #[.int .i64 0, .int .u8 0, .int .u8 0, .slice none 0 0] 32) := ⟨_, rfl⟩
  have hb0 := below_alloc w (.cells #[.int .i64 0, .int .u8 0, .int .u8 0, .slice none 0 0] 32)
  have hn0 := heap_alloc_new w (.cells #[.int .i64 0, .int .u8 0, .int .u8 0, .slice none 0 0] 32)
  have hsz0 := World.size_alloc w (.cells #[.int .i64 0, .int .u8 0, .int .u8 0, .slice none 0 0] 32)
  obtain ⟨s, hs⟩ : ∃ s, s = w.heap.size := ⟨_, rfl⟩
  rw [← hW] at hb0 hn0 hsz0
  rw [← hs] at hn0 hsz0
  have HW := Lib.hid hW.symm
  have HS := Lib.hid hs
  have HB0 := Lib.hid hb0
  have HN0 := Lib.hid hn0
  have HZ0 := Lib.hid hsz0
  have HE0 : Hid (∀ o : Int, SubQ w s 5 o [] (.slice none 0 0) (.slice none 0 0) (W0.alloc (.cells #[.int .i64 5, .int .u8 0, .int .u8 o, .slice none 0 0] 32))) := Lib.hid fun o => by
    have t := below_alloc W0 (.cells #[.int .i64 5, .int .u8 0, .int .u8 o, .slice none 0 0] 32)
    have hne := heap_alloc_new W0 (.cells #[.int .i64 5, .int .u8 0, .int .u8 o, .slice none 0 0] 32)
    rw [hsz0] at hne
    exact ⟨(t.block s (lt_of_block hn0)).trans hn0, hne, own_nil _ _, hb0.trans (t.mono hb0.size), hs.symm⟩
  -- the world at its beginning, for what is told ahead of the event's box
  have HQ0 : Hid (SubQ w s 5 0 [] (.slice none 0 0) (.slice none 0 0) (W0.alloc (.cells #[.int .i64 5, .int .u8 0, .int .u8 0, .slice none 0 0] 32))) := Lib.hid (HE0.out 0)
  have r0 : W0.cell? ⟨s, 0, none⟩ = some (.int .i64 0) := by simp [World.cell?, hn0]
  have r1 : W0.cell? ⟨s, 1, none⟩ = some (.int .u8 0) := by simp [World.cell?, hn0]
  have r2 : W0.cell? ⟨s, 2, none⟩ = some (.int .u8 0) := by simp [World.cell?, hn0]
  have r3 : W0.cell? ⟨s, 3, none⟩ = some (.slice none 0 0) := by simp [World.cell?, hn0]
  have rf : ∀ o, W0.frozen? ⟨s, o, none⟩ = false := fun o => by simp [World.frozen?, hn0]
  clear hn hrow hW hs hb0 hn0 hsz0
  by_cases hcase : n ≤ a0
  · have hc1 : (n : Int) ≤ (a0 : Int) := by omega
    have HO : Hid (SubOut b a0 0 0) := Lib.hid (.inl ⟨rfl, 3, false, .inl rfl, by rw [List.drop_eq_nil_of_le (by rw [← HN.out]; exact hcase)]; exact Subbing.nil⟩)
    go_enter Try.func117, Try.ntmps117
    go_upto_region 1 with fail
    rw [HW.out, ← HS.out]
    go_wp2_with fail
    (try simp only [Exit.inBlock, Exit.then])
    refine bodyPost_ret (results_row_tmp rfl _ _ s _ rfl (load_re (laid4r HN0.out _ _ _ _) rfl)) rfl ?_
    exact SubP.mk HS.out.symm HB0.out HN0.out (own_nil _ _) (by simp) HO.out
  have hc1 : ¬ (n : Int) ≤ (a0 : Int) := by omega
  obtain ⟨g, off, rfl, hcc⟩ := HR.out (by intro e; have := HN.out; rw [e] at this; simp at this; omega)
  have hlen : a0 < b.length := by rw [← HN.out]; omega
  obtain ⟨opt, hopt⟩ : ∃ x, b[a0]? = some x := ⟨_, List.getElem?_eq_getElem hlen⟩
  have d0 := hcc a0 (by exact hlen)
  rw [hopt] at d0
  simp only [Option.getD_some] at d0
  have CELL : Hid (∀ (p : Nat) (x : Int) (W : World), b[p]? = some x → Below w.heap.size w W → W.cell? ⟨g, off + p, none⟩ = some (.int .u8 x)) := Lib.hid fun p x W hx hb => by
    have hp := (List.getElem?_eq_some_iff.1 hx).1
    have h1 := hcc p hp
    rw [hx] at h1
    exact (hb.cell (p := ⟨g, off + p, none⟩) (World.block_lt_of_cell? w ⟨g, off + p, none⟩ h1)).trans h1
  have d0 := CELL.out a0 opt W0 hopt HB0.out
  have HOPT := Lib.hid hopt
  have SUB1 : Hid ((b.drop a0).take (a0 + 1 - a0) = [opt]) := Lib.hid (by rw [take_drop_snoc b a0 a0 opt hopt (Nat.le_refl _), Nat.sub_self, List.take_zero]; rfl)
  clear hlen hopt hcc hcase
  have hww : IntKind.i64.wrap ((a0 : Int) + 1) = (a0 : Int) + 1 := IntWalk.i64_in _ (by omega)
  go_enter Try.func117, Try.ntmps117
  go_upto_region 1 with fail
  rw [HW.out, ← HS.out]
  go_upto_if 21 with fail
  -- behind the option
  go_cut [1] (fun i wx => ∃ a1 : Nat, i = .int .i64 a1 ∧ a0 < a1 ∧ a1 ≤ n ∧ wx = W0 ∧ Hid (Subbing ((b.drop a0).take (a1 - a0)) 3 true))
  case first =>
    by_cases h255 : opt = 255
    · have hq : (opt == 255) = true := by simpa using h255
      by_cases h2 : n ≤ a0 + 1
      · have hc2 : (n : Int) ≤ (a0 : Int) + 1 := by omega
        have HO : Hid (SubOut b a0 0 0) := Lib.hid (.inl ⟨rfl, 4, false, .inr rfl, by
          have e : b.drop a0 = (b.drop a0).take (a0 + 1 - a0) := by rw [List.take_of_length_le (by rw [List.length_drop, ← HN.out]; omega)]
          rw [e, SUB1.out, h255]
          exact Subbing.nil.mark⟩)
        clear h255
        go_wp2_with fail
        (try simp only [Exit.inBlock, Exit.then])
        refine bodyPost_ret (results_row_tmp rfl _ _ s _ rfl (load_re (laid4r HN0.out _ _ _ _) rfl)) rfl ?_
        exact SubP.mk HS.out.symm HB0.out HN0.out (own_nil _ _) (by simp) HO.out
      · have hc2 : ¬ (n : Int) ≤ (a0 : Int) + 1 := by omega
        have hc3 : (a0 : Int) + 1 < (n : Int) := by omega
        obtain ⟨x, hx⟩ : ∃ x, b[a0 + 1]? = some x := ⟨_, List.getElem?_eq_getElem (by rw [← HN.out]; omega)⟩
        have d1 := CELL.out (a0 + 1) x W0 hx HB0.out
        have HX := Lib.hid hx
        have SUB2 : Hid (Subbing ((b.drop a0).take (a0 + 1 - a0)) 4 false) := Lib.hid (by rw [SUB1.out, h255]; exact Subbing.nil.mark)
        clear hx h255
        have e1 : (((a0 : Int) + 1).toNat) = a0 + 1 := by omega
        by_cases hx255 : x = 255
        · have hq2 : (x == 255) = true := by simpa using hx255
          have SUB3 : Hid (Subbing ((b.drop a0).take (a0 + 2 - a0)) 3 true) := Lib.hid (by rw [take_drop_snoc b a0 (a0 + 1) x HX.out (by omega), hx255]; exact SUB2.out.twice)
          clear hx255
          have hw3 : IntKind.i64.wrap ((a0 : Int) + 1 + 1) = (a0 : Int) + 1 + 1 := IntWalk.i64_in _ (by omega)
          go_wp2_with fail
          go_meet
          case rel => exact ⟨a0 + 2, by simp; omega, by omega, by omega, by trivial, SUB3⟩
        · have hq2 : (x == 255) = false := by simpa using hx255
          have HO : Hid (SubOut b a0 7 (a0 + 1)) := Lib.hid (.inr (.inr ⟨by omega, by rw [← HN.out]; omega, rfl, false, x, SUB2.out, HX.out, hx255, fun _ => rfl⟩))
          clear hx255
          go_wp2_with fail
          (try simp only [Exit.inBlock, Exit.then])
          refine bodyPost_ret (results_row_tmp rfl _ _ s _ rfl (load_re (laid4r HN0.out _ _ _ _) rfl)) rfl ?_
          exact SubP.mk (nx := a0 + 1) HS.out.symm HB0.out HN0.out (own_nil _ _) (by simp) HO.out
    · have hq : (opt == 255) = false := by simpa using h255
      have SUB3 : Hid (Subbing ((b.drop a0).take (a0 + 1 - a0)) 3 true) := Lib.hid (by rw [SUB1.out]; exact Subbing.nil.byte opt h255)
      clear h255
      go_wp2_with fail
      go_meet
      case rel => exact ⟨a0 + 1, by simp, by omega, by omega, by trivial, SUB3⟩
  case rest =>
  obtain ⟨a1, rfl, ha1, ha2, rfl, SUBA⟩ := hcut
  have HQ1 := Lib.hid (HE0.out opt)
  have HZ0' : Hid (wc.heap.size = s + 1) := HZ0
  clear r0 r1 r2 r3 rf d0 HE0 HQ0 hww
  go_upto_region 12 with fail
  rw [HZ0'.out]
  obtain ⟨W1, hW1⟩ : ∃ W1, W1 = wc.alloc (.cells #[.int .i64 5, .int .u8 0, .int .u8 opt, .slice none 0 0] 32) := ⟨_, rfl⟩
  rw [← hW1] at HQ1 ⊢
  clear hW1
  go_loopw [1] (fun i wr => ∃ (p : Nat) (kd : Int) (B : List Int) (ua : Option Addr) (ul uc : Nat), p ≤ n ∧ a0 < p ∧ i = .int .i64 p ∧ Hid (SubQ w s kd opt B (.slice ua ul uc) (.slice ua ul uc) wr) ∧ Hid (kd = 5 ∨ kd = 6) ∧ Hid (ul = B.length ∧ ul ≤ 256) ∧ Hid (Subbing ((b.drop a0).take (p - a0)) 3 true)) (fun i _ => n - (intOf i).toNat)
  case atStart => exact ⟨a1, 5, [], none, 0, 0, by omega, by omega, rfl, HQ1, Lib.hid (.inl rfl), Lib.hid ⟨rfl, by omega⟩, SUBA⟩
  case round =>
    obtain ⟨p, kd, B, ua, ul, uc, hpn, hp0, rfl, HQ, HKD, HUL, SUBP⟩ := hrel
    clear HQ1
    have hul := HUL.out.2
    obtain ⟨r0, r1, r2, r3, rf⟩ := HQ.out.rc
    obtain ⟨e0, e1, e2, e3, ef⟩ := HQ.out.ec
    by_cases hpl : p < n
    · have hpi : (p : Int) < (n : Int) := by omega
      have hpp : (0 : Int) ≤ (p : Int) := Int.natCast_nonneg _
      obtain ⟨c, hc⟩ : ∃ c, b[p]? = some c := ⟨_, List.getElem?_eq_getElem (by rw [← HN.out]; exact hpl)⟩
      have dc := CELL.out p c wr hc HQ.out.old
      have HC := Lib.hid hc
      clear hc
      go_upto_if 49 with fail
      go_cut [1] (fun i wx => ∃ p1 : Nat, i = .int .i64 p1 ∧ p < p1 ∧ p1 ≤ n ∧ wx = wr ∧ Hid (Subbing ((b.drop a0).take (p1 - a0)) 3 true))
      case first =>
        by_cases h255 : c = 255
        · have hq : (c == 255) = true := by simpa using h255
          have SUB2 : Hid (Subbing ((b.drop a0).take (p + 1 - a0)) 4 true) := Lib.hid (by rw [take_drop_snoc b a0 p c HC.out (by omega), h255]; exact SUBP.out.mark)
          clear h255
          by_cases h2 : n ≤ p + 1
          · have hc2 : (n : Int) ≤ (p : Int) + 1 := by omega
            have HO : Hid (SubOut b a0 0 0) := Lib.hid (.inl ⟨rfl, 4, true, .inr rfl, by
              have e : b.drop a0 = (b.drop a0).take (p + 1 - a0) := by rw [List.take_of_length_le (by rw [List.length_drop, ← HN.out]; omega)]
              rw [e]
              exact SUB2.out⟩)
            go_wp2_with fail
            (try simp only [Exit.inBlock, Exit.then])
            refine bodyPost_ret (results_row_tmp rfl _ _ s _ rfl (load_re (laid4r HQ.out.res _ _ _ _) rfl)) rfl ?_
            exact SubP.mk HQ.out.lo HQ.out.old HQ.out.res (own_nil _ _) (by simp) HO.out
          · have hc2 : ¬ (n : Int) ≤ (p : Int) + 1 := by omega
            have hc3 : (p : Int) + 1 < (n : Int) := by omega
            obtain ⟨x, hx⟩ : ∃ x, b[p + 1]? = some x := ⟨_, List.getElem?_eq_getElem (by rw [← HN.out]; omega)⟩
            have d1 := CELL.out (p + 1) x wr hx HQ.out.old
            have HX := Lib.hid hx
            clear hx
            have e1 : (((p : Int) + 1).toNat) = p + 1 := by omega
            by_cases hx240 : x = 240
            · have hq2 : (x == 240) = true := by simpa using hx240
              have HO : Hid (SubOut b a0 kd (p + 2)) := Lib.hid (.inr (.inl ⟨by omega, by rw [← HN.out]; omega, HKD.out, by rw [take_drop_snoc b a0 (p + 1) x HX.out (by omega), hx240]; exact SUB2.out.ends⟩))
              have hw3 : IntKind.i64.wrap ((p : Int) + 1 + 1) = (p : Int) + 1 + 1 := IntWalk.i64_in _ (by omega)
              have HP2 : Hid (((p + 2 : Nat) : Int) = (p : Int) + 1 + 1) := Lib.hid (by omega)
              clear hx240
              go_wp2_with fail
              (try simp only [Exit.inBlock, Exit.then])
              refine bodyPost_ret (results_row_tmp rfl _ _ s _ rfl (load_re (laid4r HQ.out.res _ _ _ _) rfl)) rfl ?_
              have hfin := SubP.mk (nx := p + 2) HQ.out.lo HQ.out.old HQ.out.res (opt := opt) HQ.out.own (by have := HUL.out; omega) HO.out
              rw [HP2.out] at hfin
              exact hfin
            · have hq2 : (x == 240) = false := by simpa using hx240
              by_cases hx255 : x = 255
              · have hq3 : (x == 255) = true := by simpa using hx255
                have SUB3 : Hid (Subbing ((b.drop a0).take (p + 2 - a0)) 3 true) := Lib.hid (by rw [take_drop_snoc b a0 (p + 1) x HX.out (by omega), hx255]; exact SUB2.out.twice)
                clear hx255 hx240
                have hw3 : IntKind.i64.wrap ((p : Int) + 1 + 1) = (p : Int) + 1 + 1 := IntWalk.i64_in _ (by omega)
                go_wp2_with fail
                go_meet
                case rel => exact ⟨p + 2, by simp; omega, by omega, by omega, by trivial, SUB3⟩
              · have hq3 : (x == 255) = false := by simpa using hx255
                have HO : Hid (SubOut b a0 7 (p + 1)) := Lib.hid (.inr (.inr ⟨by omega, by rw [← HN.out]; omega, rfl, true, x, SUB2.out, HX.out, hx255, fun h => absurd h hx240⟩))
                clear hx255 hx240
                go_wp2_with fail
                (try simp only [Exit.inBlock, Exit.then])
                refine bodyPost_ret (results_row_tmp rfl _ _ s _ rfl (load_re (laid4r HQ.out.res _ _ _ _) rfl)) rfl ?_
                exact SubP.mk (nx := p + 1) HQ.out.lo HQ.out.old HQ.out.res (own_nil _ _) (by simp) HO.out
        · have hq : (c == 255) = false := by simpa using h255
          have SUB3 : Hid (Subbing ((b.drop a0).take (p + 1 - a0)) 3 true) := Lib.hid (by rw [take_drop_snoc b a0 p c HC.out (by omega)]; exact SUBP.out.byte c h255)
          clear h255
          go_wp2_with fail
          go_meet
          case rel => exact ⟨p + 1, by simp, by omega, by omega, by trivial, SUB3⟩
      case rest =>
      obtain ⟨p1, rfl, hp1, hp2, rfl, SUBQ⟩ := hcut
      clear dc
      by_cases h256 : ul < 256
      · have h1 : ¬ (256 : Int) ≤ (ul : Int) := by omega
        have hraw := HQ.out.own
        unfold OwnBytes at hraw
        rw [← HUL.out.1] at hraw
        clear r0 r1 r2 r3 rf e0 e1 e2 e3 ef
        obtain ⟨e0, e1, e2, e3, ef⟩ := HQ.out.ec
        go_wp2_with (at_builtin; refine wpList_append_own _ rfl _ _ 24 rfl w.heap.size 5 i0 (.int .u8 0) 1 1 Try.underlying24 hi hz0 hz1 hz2 rfl (by decide) _ _ _ rfl (hraw.alloc _) ⟨wc.heap.size, 0, none⟩ 1 1 [.int .u8 c] rfl rfl (cell_one_new _ _ _) (by simp [Value.oneCell']) (by unfold maxLen; omega) (by omega) (by rw [World.size_alloc]; have := HQ.out.old.size; omega) ?_; intro v' w5 hown' hgrow _; obtain ⟨va', vc', rfl⟩ := row_form hown'; have HG5 := Lib.hid (SubQ.more (c := c) HQ.out (by rw [← HUL.out.1]; exact hown') hgrow); clear hraw hown' hgrow e0 e1 e2 e3 ef; obtain ⟨e0, e1, e2, e3, ef⟩ := HG5.out.ec)
        have HQ9 := Lib.hid HG5.out.putU
        clear e0 e1 e2 e3 ef HG5
        go_wp2_with fail
        go_roundw
        case rel => exact ⟨p1, kd, B ++ [c], va', ul + 1, vc', by omega, by omega, by first | rfl | simp, HQ9, HKD, Lib.hid ⟨by rw [List.length_append, ← HUL.out.1]; rfl, by omega⟩, SUBQ⟩
        case measure => simp [intOf]; omega
      · have h1 : (256 : Int) ≤ (ul : Int) := by omega
        have HQ9 := Lib.hid (HQ.out.putK 6)
        go_wp2_with fail
        go_roundw
        case rel => exact ⟨p1, 6, B, ua, ul, uc, by omega, by omega, by first | rfl | simp, HQ9, Lib.hid (.inr rfl), HUL, SUBQ⟩
        case measure => simp [intOf]; omega
    · obtain rfl : n = p := by omega
      have HO : Hid (SubOut b a0 0 0) := Lib.hid (.inl ⟨rfl, 3, true, .inl rfl, by
        have e : b.drop a0 = (b.drop a0).take (n - a0) := by rw [List.take_of_length_le (by rw [List.length_drop, ← HN.out]; omega)]
        rw [e]
        exact SUBP.out⟩)
      go_wp2_with fail
      (try simp only [Exit.inBlock, Exit.then])
      refine bodyPost_ret (results_row_tmp rfl _ _ s _ rfl (load_re (laid4r HQ.out.res _ _ _ _) rfl)) rfl ?_
      exact SubP.mk HQ.out.lo HQ.out.old HQ.out.res (own_nil _ _) (by simp) HO.out
end Go.Proofs.Ytimidoaafllnkaa.Iac
