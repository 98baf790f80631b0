/-
  The reference's talk: its Take.
-/
import Derived.Test.YtimidoaafllnkaaRTalkB
import Derived.Test.YtimidoaafllnkaaRefA
import Derived.Lib.OwnKind
namespace Go.Proofs.Ytimidoaafllnkaa.Talk
open Go.RowKit Base Opt
set_option linter.unusedVariables false
set_option linter.unusedSimpArgs false

def rtC (nm : ByteArray) (x u v : Value) (nd : Bool) : Array Value := #[.string nm, x, u, v, .bool nd]
/-- What Take holds: its argument in block s, the event behind it, then its result. -/
structure UQ (base s : Nat) (w : World) (nm : ByteArray) (x u v : Value) (nd : Bool) (L : List One) (A B : List Int) (E R : Array Value) (Z : World) : Prop where
  box : Z.heap[s]? = some (.cells (rtC nm x u v nd) 48 (0, 0))
  ev : Z.heap[s + 1]? = some (.cells E 32 (0, 0))
  res : Z.heap[s + 2]? = some (.cells R 48 (0, 0))
  row : OneRow base Z x L
  ru : RowOf .u8 Z u A
  rv : RowOf .u8 Z v B
  old : Below s w Z
section
variable {base s : Nat} {w Z Z' : World} {nm : ByteArray} {x u v : Value} {nd : Bool} {L : List One} {A B : List Int} {E R : Array Value}
theorem UQ.lt (h : UQ base s w nm x u v nd L A B E R Z) : s + 3 ≤ Z.heap.size := by have := lt_of_block h.res; omega
theorem UQ.below (h : UQ base s w nm x u v nd L A B E R Z) (t : Below Z.heap.size Z Z') : UQ base s w nm x u v nd L A B E R Z' :=
  ⟨(t.block s (lt_of_block h.box)).trans h.box, (t.block (s + 1) (lt_of_block h.ev)).trans h.ev, (t.block (s + 2) (lt_of_block h.res)).trans h.res, h.row.below t, h.ru.below t, h.rv.below t, h.old.trans (t.mono (by have := h.lt; omega))⟩
theorem UQ.tcells (h : UQ base s w nm x u v nd L A B E R Z) : Z.cell? ⟨s, 0, none⟩ = some (.string nm) ∧ Z.cell? ⟨s, 1, none⟩ = some x ∧ Z.cell? ⟨s, 2, none⟩ = some u ∧ Z.cell? ⟨s, 3, none⟩ = some v ∧ Z.cell? ⟨s, 4, none⟩ = some (.bool nd) ∧ ∀ o, Z.frozen? ⟨s, o, none⟩ = false := by
  have := h.box
  unfold rtC at this
  exact ⟨by simp [World.cell?, this], by simp [World.cell?, this], by simp [World.cell?, this], by simp [World.cell?, this], by simp [World.cell?, this], fun o => by simp [World.frozen?, this]⟩
theorem UQ.ecells {e0 e1 e2 e3 : Value} (h : UQ base s w nm x u v nd L A B #[e0, e1, e2, e3] R Z) : Z.cell? ⟨s + 1, 0, none⟩ = some e0 ∧ Z.cell? ⟨s + 1, 1, none⟩ = some e1 ∧ Z.cell? ⟨s + 1, 2, none⟩ = some e2 ∧ Z.cell? ⟨s + 1, 3, none⟩ = some e3 := by
  have := h.ev
  exact ⟨by simp [World.cell?, this], by simp [World.cell?, this], by simp [World.cell?, this], by simp [World.cell?, this]⟩
theorem UQ.rcells (h : UQ base s w nm x u v nd L A B E #[.string ⟨#[]⟩, .slice none 0 0, .slice none 0 0, .slice none 0 0, .bool false] Z) : Z.cell? ⟨s + 1 + 1, 0, none⟩ = some (.string ⟨#[]⟩) ∧ Z.cell? ⟨s + 1 + 1, 1, none⟩ = some (.slice none 0 0) ∧ Z.cell? ⟨s + 1 + 1, 2, none⟩ = some (.slice none 0 0) ∧ Z.cell? ⟨s + 1 + 1, 3, none⟩ = some (.slice none 0 0) ∧ Z.cell? ⟨s + 1 + 1, 4, none⟩ = some (.bool false) ∧ ∀ o, Z.frozen? ⟨s + 1 + 1, o, none⟩ = false := by
  have : Z.heap[s + 1 + 1]? = _ := h.res
  exact ⟨by simp [World.cell?, this], by simp [World.cell?, this], by simp [World.cell?, this], by simp [World.cell?, this], by simp [World.cell?, this], fun o => by simp [World.frozen?, this]⟩
end
abbrev R0 : Array Value := #[.string ⟨#[]⟩, .slice none 0 0, .slice none 0 0, .slice none 0 0, .bool false]
theorem uq_new {base : Nat} {w : World} {nm : ByteArray} {x u v : Value} {nd : Bool} {L : List One} {A B : List Int} {E : Array Value} (hr : OneRow base w x L) (hu : RowOf .u8 w u A) (hv : RowOf .u8 w v B) :
    UQ base w.heap.size w nm x u v nd L A B E R0 (((w.alloc (.cells (rtC nm x u v nd) 48)).alloc (.cells E 32)).alloc (.cells R0 48)) := by
  have sz : ∀ (W : World) (o : Obj), (W.alloc o).heap.size = W.heap.size + 1 := fun W o => World.size_alloc W o
  have b1 := below_alloc w (.cells (rtC nm x u v nd) 48)
  have b2 := below_alloc (w.alloc (.cells (rtC nm x u v nd) 48)) (.cells E 32)
  have b3 := below_alloc ((w.alloc (.cells (rtC nm x u v nd) 48)).alloc (.cells E 32)) (.cells R0 48)
  have hb := (b1.trans (b2.mono b1.size)).trans (b3.mono (Nat.le_trans b1.size b2.size))
  have n2 := heap_alloc_new (w.alloc (.cells (rtC nm x u v nd) 48)) (.cells E 32)
  have n3 := heap_alloc_new ((w.alloc (.cells (rtC nm x u v nd) 48)).alloc (.cells E 32)) (.cells R0 48)
  rw [sz] at n2
  rw [sz, sz] at n3
  exact ⟨(b3.block _ (by rw [sz, sz]; omega)).trans ((b2.block _ (by rw [sz]; omega)).trans (heap_alloc_new w _)), (b3.block _ (by rw [sz, sz]; omega)).trans n2, n3, hr.below hb, hu.below hb, hv.below hb, hb⟩
theorem rgot_n (base na nb : Nat) (v : Value) (ya za : Option Addr) (yc zc : Nat) (L : List One) (A B : List Int) (hna : na = A.length) (hnb : nb = B.length) (c o : Nat) (w : World) (h : OneRow base w v L) (hl : L.length ≤ 200) (hst : ∀ ours, stL L ours o ≤ 5) (hc : c < 256)
    (hy : RowOf .u8 w (.slice ya na yc) A) (hz : RowOf .u8 w (.slice za nb zc) B) (hA : A.length ≤ maxLen) (hB : B.length ≤ maxLen) (hbase : base ≤ w.heap.size) :
    Calls Try.prog 75 #[.agg #[v, .slice ya na yc, .slice za nb zc], .int .u8 c, .int .u8 o] w (GotR base (.slice ya na yc) (.slice za nb zc) (rgotR A B L c o).1 (rgotR A B L c o).2 w) := by
  subst hna hnb
  exact rgot_any base v ya za yc zc L A B c o w h hl hst hc hy hz hA hB hbase
theorem noByte_rt {Z : World} {g : Nat} {nm : ByteArray} {nd : Bool} {xa ua va : Option Addr} {xn xc un uc vn vc : Nat} {t : TypeId} {fz : Nat × Nat} (h : Z.heap[g]? = some (.cells #[.string nm, .slice xa xn xc, .slice ua un uc, .slice va vn vc, .bool nd] t fz)) : ∀ o k, Z.cell? ⟨g, o, none⟩ ≠ some (.int .u8 k) := by
  intro o k hc
  simp only [World.cell?, h] at hc
  match o, hc with
  | 0, hc => simp at hc
  | 1, hc => simp at hc
  | 2, hc => simp at hc
  | 3, hc => simp at hc
  | 4, hc => simp at hc
  | o + 5, hc => simp at hc
theorem row_at {X : Nat} {W W' : World} {v : Value} {L : List Int} (h : RowOf .u8 W v L) (hx : ∀ o k, W.cell? ⟨X, o, none⟩ ≠ some (.int .u8 k)) (t : Turn (At X) W W') : RowOf .u8 W' v L := by
  obtain ⟨a, cap, rfl, hr⟩ := h
  refine ⟨a, cap, rfl, fun hne => ?_⟩
  obtain ⟨g, off, rfl, hi⟩ := hr hne
  refine ⟨g, off, rfl, fun i hlt => ?_⟩
  have hc := hi i hlt
  have hg : g ≠ X := fun e => hx (off + i) _ (by rw [← e]; exact hc)
  exact (cell_block (t.block g (World.block_lt_of_cell? W ⟨g, off + i, none⟩ hc) hg) _).trans hc
theorem one_ne {base : Nat} {Z : World} {x : Value} {L : List One} {g : Nat} {cs : Array Value} {fz : Nat × Nat} (h : OneRow base Z x L) (hb : Z.heap[g]? = some (.cells cs 48 fz)) : ∀ k, x.ownBlock = some k → k ≠ g := by
  rintro k e rfl
  obtain ⟨c, f, h1⟩ := Lib.ownsRow_kind h k e
  rw [h1] at hb
  cases hb
theorem one_at {base : Nat} {Z Z' : World} {x : Value} {L : List One} {g : Nat} {cs : Array Value} {fz : Nat × Nat} (h : OneRow base Z x L) (hb : Z.heap[g]? = some (.cells cs 48 fz)) (t : Turn (At g) Z Z') : OneRow base Z' x L :=
  h.keep' fun k hk => t.block k (h.own_lt k hk) (by unfold At; exact one_ne h hb k hk)
section
variable {base s : Nat} {w Z : World} {nm : ByteArray} {nd : Bool} {L L' : List One} {A B : List Int} {E R : Array Value} {xa xa' ua va : Option Addr} {xn xc xn' xc' un uc vn vc : Nat}
theorem UQ.put (h : UQ base s w nm (.slice xa xn xc) (.slice ua un uc) (.slice va vn vc) nd L A B E R Z) (hr : OneRow base Z (.slice xa' xn' xc') L') :
    UQ base s w nm (.slice xa' xn' xc') (.slice ua un uc) (.slice va vn vc) nd L' A B E R (((Z.setCell ⟨s, 1, none⟩ (.slice xa' xn' xc')).setCell ⟨s, 2, none⟩ (.slice ua un uc)).setCell ⟨s, 3, none⟩ (.slice va vn vc)) := by
  have ht : Turn (At s) Z (((Z.setCell ⟨s, 1, none⟩ (.slice xa' xn' xc')).setCell ⟨s, 2, none⟩ (.slice ua un uc)).setCell ⟨s, 3, none⟩ (.slice va vn vc)) := ((turn_set _ _ _ _).trans (turn_set _ _ _ _)).trans (turn_set _ _ _ _)
  have hb := h.box
  unfold rtC at hb
  have hlt := h.lt
  exact ⟨heap_set (heap_set (heap_set hb 1 _) 2 _) 3 _, (ht.block _ (lt_of_block h.ev) (by unfold At; omega)).trans h.ev, (ht.block _ (lt_of_block h.res) (by unfold At; omega)).trans h.res, one_at hr hb ht, row_at h.ru (noByte_rt hb) ht, row_at h.rv (noByte_rt hb) ht, h.old.trans (ht.at_below (by omega) (Nat.le_refl _))⟩
theorem UQ.putNd (h : UQ base s w nm (.slice xa xn xc) (.slice ua un uc) (.slice va vn vc) nd L A B E R Z) (b : Bool) :
    UQ base s w nm (.slice xa xn xc) (.slice ua un uc) (.slice va vn vc) b L A B E R (Z.setCell ⟨s, 4, none⟩ (.bool b)) := by
  have ht : Turn (At s) Z (Z.setCell ⟨s, 4, none⟩ (.bool b)) := turn_set _ _ _ _
  have hb := h.box
  unfold rtC at hb
  have hlt := h.lt
  exact ⟨heap_set hb 4 _, (ht.block _ (lt_of_block h.ev) (by unfold At; omega)).trans h.ev, (ht.block _ (lt_of_block h.res) (by unfold At; omega)).trans h.res, one_at h.row hb ht, row_at h.ru (noByte_rt hb) ht, row_at h.rv (noByte_rt hb) ht, h.old.trans (ht.at_below (by omega) (Nat.le_refl _))⟩
def put5 (W : World) (g : Nat) (a b c d e : Value) : World := ((((W.setCell ⟨g, 0, none⟩ a).setCell ⟨g, 1, none⟩ b).setCell ⟨g, 2, none⟩ c).setCell ⟨g, 3, none⟩ d).setCell ⟨g, 4, none⟩ e
def put4 (W : World) (g : Nat) (a b c d : Value) : World := (((W.setCell ⟨g, 0, none⟩ a).setCell ⟨g, 1, none⟩ b).setCell ⟨g, 2, none⟩ c).setCell ⟨g, 3, none⟩ d
theorem put5_turn (W : World) (g : Nat) (a b c d e : Value) : Turn (At g) W (put5 W g a b c d e) := ((((turn_set _ _ _ _).trans (turn_set _ _ _ _)).trans (turn_set _ _ _ _)).trans (turn_set _ _ _ _)).trans (turn_set _ _ _ _)
theorem put4_turn (W : World) (g : Nat) (a b c d : Value) : Turn (At g) W (put4 W g a b c d) := (((turn_set _ _ _ _).trans (turn_set _ _ _ _)).trans (turn_set _ _ _ _)).trans (turn_set _ _ _ _)
/-- The result's box, laid. -/
theorem UQ.fin5 (h : UQ base s w nm (.slice xa xn xc) (.slice ua un uc) (.slice va vn vc) nd L A B E R0 Z) :
    (loadVar 48 ⟨s + 1 + 1, 0, none⟩).run Try.prog (put5 Z (s + 1 + 1) (.string nm) (.slice xa xn xc) (.slice ua un uc) (.slice va vn vc) (.bool nd)) = .ok (.agg #[.string nm, .slice xa xn xc, .slice ua un uc, .slice va vn vc, .bool nd]) (put5 Z (s + 1 + 1) (.string nm) (.slice xa xn xc) (.slice ua un uc) (.slice va vn vc) (.bool nd)) :=
  run_loadVar_row _ (s + 1 + 1) 48 48 #[.string nm, .slice xa xn xc, .slice ua un uc, .slice va vn vc, .bool nd] (0, 0) _ (heap_set (heap_set (heap_set (heap_set (heap_set h.res 0 _) 1 _) 2 _) 3 _) 4 _) Try.underlying48 rfl size_rt
theorem UQ.fin4 (h : UQ base s w nm (.slice xa xn xc) (.slice ua un uc) (.slice va vn vc) false L A B E R0 Z) :
    (loadVar 48 ⟨s + 1 + 1, 0, none⟩).run Try.prog (put4 Z (s + 1 + 1) (.string nm) (.slice xa xn xc) (.slice ua un uc) (.slice va vn vc)) = .ok (.agg #[.string nm, .slice xa xn xc, .slice ua un uc, .slice va vn vc, .bool false]) (put4 Z (s + 1 + 1) (.string nm) (.slice xa xn xc) (.slice ua un uc) (.slice va vn vc)) :=
  run_loadVar_row _ (s + 1 + 1) 48 48 #[.string nm, .slice xa xn xc, .slice ua un uc, .slice va vn vc, .bool false] (0, 0) _ (heap_set (heap_set (heap_set (heap_set h.res 0 _) 1 _) 2 _) 3 _) Try.underlying48 rfl size_rt
end
theorem rgot_len (A B : List Int) (L : List One) (c : Int) (o : Nat) : (rgotR A B L c o).1.length ≤ L.length + 1 := by
  have key : ∀ ours v, (setL L ours o v).length ≤ L.length + 1 := fun ours v => by
    unfold setL dropO
    rw [List.length_append]
    have := List.length_filter_le (fun p => !isKey ours o p) L
    split <;> simp <;> omega
  unfold rgotR
  repeat' split
  all_goals first | exact key _ _ | simp
def RTakeK (base : Nat) (nm : ByteArray) (u v : Value) (R : List One × Bool × List Int) (w : World) (e : Ending) (w' : World) : Prop :=
  ∃ x' p, e = .returned (.tuple #[.agg #[.string nm, x', u, v, .bool R.2.1], p]) ∧ OneRow base w' x' R.1 ∧ RowOf .u8 w' p R.2.2 ∧ Below w.heap.size w w'
theorem RTakeK.mk {base s : Nat} {w Z Z' : World} {nm : ByteArray} {nd : Bool} {L : List One} {A B : List Int} {E : Array Value} {xa ua va : Option Addr} {xn xc un uc vn vc : Nat} {p : Value} {Y : List Int} (hs : s = w.heap.size)
    (h : UQ base s w nm (.slice xa xn xc) (.slice ua un uc) (.slice va vn vc) nd L A B E R0 Z) (hp : RowOf .u8 Z p Y) (t : Turn (At (s + 1 + 1)) Z Z') :
    RTakeK base nm (.slice ua un uc) (.slice va vn vc) (L, nd, Y) w (.returned (.tuple #[.agg #[.string nm, .slice xa xn xc, .slice ua un uc, .slice va vn vc, .bool nd], p])) Z' := by
  have hlt := h.lt
  have hr : Z.heap[s + 1 + 1]? = some (.cells #[.string ⟨#[]⟩, .slice none 0 0, .slice none 0 0, .slice none 0 0, .bool false] 48 (0, 0)) := h.res
  refine ⟨_, _, rfl, one_at h.row hr t, row_at hp (noByte_rt hr) t, ?_⟩
  have := h.old.trans (t.at_below (B := s) (by omega) (by omega))
  rw [hs] at this
  exact this
set_option maxRecDepth 100000 in
set_option maxHeartbeats 8000000 in
theorem rtake_verb (base : Nat) (nm : ByteArray) (xa ua va : Option Addr) (xn xc un uc vn vc : Nat) (nd : Bool) (L : List One) (A B : List Int) (c o : Nat) (ev : Value) (w : World) (h : OneRow base w (.slice xa xn xc) L) (hl : L.length ≤ 200) (hst : ∀ ours, stL L ours o ≤ 5) (hc : c < 256)
    (hu : RowOf .u8 w (.slice ua un uc) A) (hv : RowOf .u8 w (.slice va vn vc) B) (hun : un = A.length) (hvn : vn = B.length) (hA : A.length ≤ maxLen) (hB : B.length ≤ maxLen) (hbase : base ≤ w.heap.size) :
    Calls Try.prog 28 #[.agg #[.string nm, .slice xa xn xc, .slice ua un uc, .slice va vn vc, .bool nd], .agg #[.int .i64 4, .int .u8 c, .int .u8 o, ev]] w (RTakeK base nm (.slice ua un uc) (.slice va vn vc) ((rgotR A B L c o).1, nd && decide (stL (rgotR A B L c o).1 true 24 = 1), (rgotR A B L c o).2) w) := by
  have hzero := (zero_of_info info_rt).1
  have hq := uq_new (nm := nm) (nd := nd) (E := #[.int .i64 4, .int .u8 c, .int .u8 o, ev]) h hu hv
  obtain ⟨W0, hW⟩ : ∃ W0, W0 = ((w.alloc (.cells (rtC nm (.slice xa xn xc) (.slice ua un uc) (.slice va vn vc) nd) 48)).alloc (.cells #[.int .i64 4, .int .u8 c, .int .u8 o, ev] 32)).alloc (.cells R0 48) := ⟨_, rfl⟩
  obtain ⟨s, hs⟩ : ∃ s, s = w.heap.size := ⟨_, rfl⟩
  rw [← hW, ← hs] at hq
  unfold rtC R0 at hW
  have HW := Lib.hid hW.symm
  have HS := Lib.hid hs
  have HQ := Lib.hid hq
  have HG := Lib.hid (rgot_n base un vn (.slice xa xn xc) ua va uc vc L A B hun hvn c o W0 hq.row hl hst hc hq.ru hq.rv hA hB (by have := hq.lt; omega))
  obtain ⟨c0, c1, c2, c3, c4, f1⟩ := hq.tcells
  obtain ⟨e0, e1, e2, e3⟩ := hq.ecells
  obtain ⟨r0, r1, r2, r3, r4, f2⟩ := hq.rcells
  have HLG : Hid ((rgotR A B L c o).1.length ≤ 201) := Lib.hid (by have := rgot_len A B L c o; omega)
  clear hW hs hq h hl hst hu hv hun hvn hA hB hbase
  go_enter Try.func28, Try.ntmps28
  go_upto_region 1 with fail
  rw [HW.out, ← HS.out]
  go_wp2_with fail
  refine HG.out.mono ?_
  rintro e w1 ⟨x', p, rfl, R1, P1, b1⟩
  obtain ⟨xa', xc', rfl⟩ := R1.slice
  obtain ⟨xn', hxn⟩ : ∃ m, m = (rgotR A B L c o).1.length := ⟨_, rfl⟩
  rw [← hxn] at R1 ⊢
  have HQ1 := Lib.hid (HQ.out.below b1)
  have HR1 := Lib.hid R1
  have HP1 := Lib.hid P1
  clear c0 c1 c2 c3 c4 e0 e1 e2 e3 r0 r1 r2 r3 r4 f1 f2 R1 P1 hxn b1
  obtain ⟨c0, c1, c2, c3, c4, f1⟩ := HQ1.out.tcells
  obtain ⟨r0, r1, r2, r3, r4, f2⟩ := HQ1.out.rcells
  go_upto_region 3 with fail
  obtain ⟨W2, hW2⟩ : ∃ W2, W2 = w1.alloc (.cells #[.slice xa' xn' xc', .slice ua un uc, .slice va vn vc] 46) := ⟨_, rfl⟩
  have hb2 := below_alloc w1 (.cells #[.slice xa' xn' xc', .slice ua un uc, .slice va vn vc] 46)
  have hn2 := heap_alloc_new w1 (.cells #[.slice xa' xn' xc', .slice ua un uc, .slice va vn vc] 46)
  obtain ⟨ob, hob⟩ : ∃ ob, ob = w1.heap.size := ⟨_, rfl⟩
  rw [← hW2] at hb2 hn2 ⊢
  rw [← hob] at hn2 ⊢
  have HQ2 := Lib.hid (HQ1.out.below hb2)
  have HR2 := Lib.hid (HR1.out.below hb2)
  have HP2 := Lib.hid (HP1.out.below hb2)
  have o0 : W2.cell? ⟨ob, 0, none⟩ = some (.slice xa' xn' xc') := by simp [World.cell?, hn2]
  have o1 : W2.cell? ⟨ob, 1, none⟩ = some (.slice ua un uc) := by simp [World.cell?, hn2]
  have o2 : W2.cell? ⟨ob, 2, none⟩ = some (.slice va vn vc) := by simp [World.cell?, hn2]
  clear c0 c1 c2 c3 c4 f1 r0 r1 r2 r3 r4 f2 hW2 hob hn2 hb2 HQ1 HR1 HP1 HQ HG HW
  obtain ⟨c0, c1, c2, c3, c4, f1⟩ := HQ2.out.tcells
  obtain ⟨r0, r1, r2, r3, r4, f2⟩ := HQ2.out.rcells
  go_upto_region 4 with fail
  have HQ3 := Lib.hid (HQ2.out.put HR2.out)
  have hp3 : RowOf .u8 (((W2.setCell ⟨s, 1, none⟩ (.slice xa' xn' xc')).setCell ⟨s, 2, none⟩ (.slice ua un uc)).setCell ⟨s, 3, none⟩ (.slice va vn vc)) p (rgotR A B L c o).2 := row_at HP2.out.row (noByte_rt HQ2.out.box) (((turn_set _ _ _ _).trans (turn_set _ _ _ _)).trans (turn_set _ _ _ _))
  have HP3 := Lib.hid hp3
  obtain ⟨W3, hW3⟩ : ∃ W3, W3 = ((W2.setCell ⟨s, 1, none⟩ (.slice xa' xn' xc')).setCell ⟨s, 2, none⟩ (.slice ua un uc)).setCell ⟨s, 3, none⟩ (.slice va vn vc) := ⟨_, rfl⟩
  rw [← hW3] at HQ3 HP3 ⊢
  clear c0 c1 c2 c3 c4 f1 r0 r1 r2 r3 r4 f2 o0 o1 o2 hp3 hW3 HQ2 HR2 HP2
  obtain ⟨c0, c1, c2, c3, c4, f1⟩ := HQ3.out.tcells
  obtain ⟨L', hL'⟩ : ∃ L', L' = (rgotR A B L c o).1 := ⟨_, rfl⟩
  obtain ⟨Y, hY⟩ : ∃ Y, Y = (rgotR A B L c o).2 := ⟨_, rfl⟩
  rw [← hL'] at HQ3 ⊢
  rw [← hY] at HP3 ⊢
  have hl' : L'.length ≤ 1000 := by rw [hL']; have := HLG.out; omega
  have HON := Lib.hid (ron_any base nm _ (.slice ua un uc) (.slice va vn vc) nd L' true 24 W3 HQ3.out.row hl')
  obtain ⟨b, hb⟩ : ∃ b, b = decide (stL L' true 24 = 1) := ⟨_, rfl⟩
  rw [← hb] at HON ⊢
  have HLL := Lib.hid hL'
  have HYY := Lib.hid hY
  have HBB := Lib.hid hb
  clear hL' hY hl' hb
  cases b
  · go_wp2_with fail
    refine HON.out.mono ?_
    rintro e W4 ⟨rfl, b4⟩
    have HQ4 := Lib.hid (HQ3.out.below b4)
    have HP4 := Lib.hid (HP3.out.below b4)
    clear c0 c1 c2 c3 c4 f1 b4 HQ3 HP3 HON
    obtain ⟨c0, c1, c2, c3, c4, f1⟩ := HQ4.out.tcells
    obtain ⟨r0, r1, r2, r3, r4, f2⟩ := HQ4.out.rcells
    go_upto_region 6 with fail
    have HQ5 := Lib.hid (HQ4.out.putNd false)
    have HP5 := Lib.hid (row_at HP4.out (noByte_rt HQ4.out.box) (turn_set W4 s 4 (.bool false)))
    obtain ⟨W5, hW5⟩ : ∃ W5, W5 = W4.setCell ⟨s, 4, none⟩ (.bool false) := ⟨_, rfl⟩
    rw [← hW5] at HQ5 HP5 ⊢
    clear c0 c1 c2 c3 c4 f1 r0 r1 r2 r3 r4 f2 hW5 HQ4 HP4
    obtain ⟨c0, c1, c2, c3, c4, f1⟩ := HQ5.out.tcells
    obtain ⟨r0, r1, r2, r3, r4, f2⟩ := HQ5.out.rcells
    go_wp2_with fail
    (try simp only [Exit.inBlock, Exit.then])
    refine bodyPost_ret (results_row_tmp rfl _ _ (s + 1 + 1) _ rfl HQ5.out.fin5) rfl ?_
    rw [← HLL.out, ← HYY.out, ← HBB.out, Bool.and_false]
    exact RTakeK.mk HS.out HQ5.out HP5.out (put5_turn _ _ _ _ _ _ _)
  · go_wp2_with fail
    refine HON.out.mono ?_
    rintro e W4 ⟨rfl, b4⟩
    have HQ4 := Lib.hid (HQ3.out.below b4)
    have HP4 := Lib.hid (HP3.out.below b4)
    clear c0 c1 c2 c3 c4 f1 b4 HQ3 HP3 HON
    obtain ⟨c0, c1, c2, c3, c4, f1⟩ := HQ4.out.tcells
    obtain ⟨r0, r1, r2, r3, r4, f2⟩ := HQ4.out.rcells
    go_wp2_with fail
    (try simp only [Exit.inBlock, Exit.then])
    refine bodyPost_ret (results_row_tmp rfl _ _ (s + 1 + 1) _ rfl HQ4.out.fin5) rfl ?_
    rw [← HLL.out, ← HYY.out, ← HBB.out, Bool.and_true]
    exact RTakeK.mk HS.out HQ4.out HP4.out (put5_turn _ _ _ _ _ _ _)
end Go.Proofs.Ytimidoaafllnkaa.Talk
