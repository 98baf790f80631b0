/-
  The iterator over so many cells of a plane from a place on.
-/
import Derived.Test.YtgjhboikfbafcaaPlE
import Derived.Sort.CutIn
namespace Go.Proofs.Ytgjhboikfbafcaa.Pl
open Go.RowKit Go.Shelf Base
attribute [local go_sem] Oper.semAt_some
set_option linter.unusedVariables false
set_option linter.unusedSimpArgs false

theorem yield_deep {F : Fence} (hd : F.depth = none) {m : Nat} (m' : Nat) {P : Program} {l : Nat} {args : Array Value} {W : World} {R : Ending → World → Prop} (h : YieldAt F m P l args W R) : YieldAt F m' P l args W R := by
  obtain ⟨fn, tmps, assign, body, hy, hR⟩ := h
  exact ⟨fn, tmps, assign, body, hy, ⟨hR.1, fun c cs _ => hR.2 c cs (fun d h => by rw [hd] at h; cases h)⟩⟩

def OkL (L : List Cl) : Prop := ∀ x ∈ L, x.Ok
theorem atL_ok {L : List Cl} (h : OkL L) (i : Int) : (atL L i).Ok := by
  unfold atL
  split
  · cases hx : L[i.toNat]? with
    | none => exact c0_ok
    | some x => exact h x (List.mem_of_getElem? hx)
  · exact c0_ok
abbrev CO := { x : Cl // x.Ok }
def atO {L : List Cl} (h : OkL L) (i : Int) : CO := ⟨atL L i, atL_ok h i⟩
def cellsO {L : List Cl} (h : OkL L) (from_ n : Int) : List CO := if n ≤ 0 then [] else (betw L.length from_ (mv L.length from_ (min n L.length))).map (atO h)
/-- So many cells from a place on. -/
def cellsL (L : List Cl) (from_ n : Int) : List Cl := if n ≤ 0 then [] else (betw L.length from_ (mv L.length from_ (min n L.length))).map (atL L)
theorem cellsO_val {L : List Cl} (h : OkL L) (from_ n : Int) : (cellsO h from_ n).map (·.1) = cellsL L from_ n := by
  unfold cellsO cellsL
  split
  · rfl
  · rw [List.map_map]; rfl
/-- What a round must keep: all but rows of bytes, and all that the iterator reads. -/
structure KT (S : Nat → Prop) (N0 : Nat) (A B : World) : Prop where
  others : KeepsFrom N0 A B
  typed : ∀ k cs t fz, N0 ≤ k → t ≠ 5 → A.heap[k]? = some (.cells cs t fz) → B.heap[k]? = A.heap[k]?
  low : ∀ k, S k → B.heap[k]? = A.heap[k]?
theorem KT.trans {S : Nat → Prop} {N0 : Nat} {A B C : World} (h : KT S N0 A B) (k : KT S N0 B C) : KT S N0 A C :=
  ⟨h.others.trans k.others, fun i cs t fz hi ht hA => by
    have h1 := h.typed i cs t fz hi ht hA
    exact (k.typed i cs t fz hi ht (h1.trans hA)).trans h1, fun i hi => (k.low i hi).trans (h.low i hi)⟩
/-- What the iterator reads. -/
structure CIt (bn bp bf b g : Nat) (r c cur : Int) (L : List Cl) (from_ n : Int) (W : World) : Prop where
  pl : PlAt W b g r c cur L
  hn : W.heap[bn]? = some (.cells #[.int .i64 n] 3 (0, 0))
  hp : W.heap[bp]? = some (.cells #[.pointer (some ⟨b, 0, none⟩)] 26 (0, 0))
  hf : W.heap[bf]? = some (.cells #[.int .i64 from_] 3 (0, 0))
def CS (bn bp bf b g : Nat) (k : Nat) : Prop := k = bn ∨ k = bp ∨ k = bf ∨ k = b ∨ k = g
section
variable {bn bp bf b g : Nat} {r c cur : Int} {L : List Cl} {from_ n : Int} {W W' : World}
theorem CIt.keep (h : CIt bn bp bf b g r c cur L from_ n W) (hz : W.heap.size ≤ W'.heap.size) (hk : ∀ k, CS bn bp bf b g k → W'.heap[k]? = W.heap[k]?) : CIt bn bp bf b g r c cur L from_ n W' :=
  ⟨h.pl.keep hz (hk _ (by simp [CS])) (hk _ (by simp [CS])), (hk _ (by simp [CS])).trans h.hn, (hk _ (by simp [CS])).trans h.hp, (hk _ (by simp [CS])).trans h.hf⟩
theorem CIt.low (h : CIt bn bp bf b g r c cur L from_ n W) : ∀ k, CS bn bp bf b g k → k < W.heap.size := by
  rintro k (rfl | rfl | rfl | rfl | rfl)
  · exact lt_of_block h.hn
  · exact lt_of_block h.hp
  · exact lt_of_block h.hf
  · exact h.pl.lt
  · exact h.pl.ltg
theorem CIt.below (h : CIt bn bp bf b g r c cur L from_ n W) (t : Below W.heap.size W W') : CIt bn bp bf b g r c cur L from_ n W' := h.keep t.size fun k hk => t.block k (h.low k hk)
theorem CIt.grown {row : Option Nat} (h : CIt bn bp bf b g r c cur L from_ n W) (hg : W.grownBy W' row) (hr : ∀ r, row = some r → ∃ o : Obj, W.heap[r]? = some o ∧ o.isCells = false) : CIt bn bp bf b g r c cur L from_ n W' := by
  obtain ⟨A, B, h1, h2⟩ := h.pl.blocks
  refine h.keep hg.size ?_
  rintro k (rfl | rfl | rfl | rfl | rfl)
  · exact cells_kept h.hn hg hr
  · exact cells_kept h.hp hg hr
  · exact cells_kept h.hf hg hr
  · exact cells_kept h1 hg hr
  · exact cells_kept h2 hg hr
end
/-- The four blocks of the iterator over places. -/
structure Bet4 (s B : Nat) (r c a z n : Int) (X : World) : Prop where
  q1 : X.heap[s]? = some (.cells #[.int .i64 r, .int .i64 c] 23 (0, 0))
  q2 : X.heap[s + 1]? = some (.cells #[.int .i64 a] 3 (0, 0))
  q3 : X.heap[s + 2]? = some (.cells #[.int .i64 z] 3 (0, 0))
  q4 : X.heap[B]? = some (.cells #[.int .i64 n] 3 (0, 0))
theorem Bet4.iter {s B : Nat} {r c a z n : Int} {X : World} (h : Bet4 s B r c a z n X) : BetIter X.heap.size X (s + 1) B (s + 2) s a n z r c :=
  ⟨⟨lt_of_block h.q2, lt_of_block h.q4, lt_of_block h.q3, lt_of_block h.q1⟩, by simp [World.cell?, h.q2], by simp [World.cell?, h.q4], by simp [World.cell?, h.q3], by simp [World.cell?, h.q1], by simp [World.cell?, h.q1]⟩
/-- What the regions that draw know: all that the iterator reads, and that what was there is there. -/
structure CQ (bn bp bf b g : Nat) (r c cur : Int) (L : List Cl) (from_ n : Int) (W0 X : World) : Prop where
  it : CIt bn bp bf b g r c cur L from_ n X
  old : Below W0.heap.size W0 X
section
variable {bn bp bf b g : Nat} {r c cur : Int} {L : List Cl} {from_ n : Int} {W0 X Y : World}
theorem CQ.pl (h : CQ bn bp bf b g r c cur L from_ n W0 X) : PlAt X b g r c cur L := h.it.pl
theorem CQ.below (h : CQ bn bp bf b g r c cur L from_ n W0 X) (t : Below X.heap.size X Y) : CQ bn bp bf b g r c cur L from_ n W0 Y := ⟨h.it.below t, h.old.trans (t.mono h.old.size)⟩
theorem CQ.drew (h : CQ bn bp bf b g r c cur L from_ n W0 X) : CQ bn bp bf b g r c cur L from_ n W0 X.drew := ⟨h.it.keep (Nat.le_refl _) (fun _ _ => rfl), below_drew h.old⟩
theorem CQ.s (h : CQ bn bp bf b g r c cur L from_ n W0 X) : X.cell? ⟨bn, 0, none⟩ = some (.int .i64 n) ∧ X.cell? ⟨bp, 0, none⟩ = some (.pointer (some ⟨b, 0, none⟩)) ∧ X.cell? ⟨bf, 0, none⟩ = some (.int .i64 from_) ∧ CQ bn bp bf b g r c cur L from_ n W0 X :=
  ⟨by simp [World.cell?, h.it.hn], by simp [World.cell?, h.it.hp], by simp [World.cell?, h.it.hf], h⟩
end
theorem between_h (r c a z n : Int) (w : World) (hn : Hid (cells r c = n)) :
    Calls Try.prog 107 #[.agg #[.int .i64 r, .int .i64 c], .int .i64 a, .int .i64 z] w fun e w' => ∃ B, e = .returned (.func (.func 133) #[] #[.pointer (some ⟨w.heap.size + 1, 0, none⟩), .pointer (some ⟨B, 0, none⟩), .pointer (some ⟨w.heap.size + 2, 0, none⟩), .pointer (some ⟨w.heap.size, 0, none⟩)]) ∧
      w'.heap[w.heap.size]? = some (.cells #[.int .i64 r, .int .i64 c] 23 (0, 0)) ∧ w'.heap[w.heap.size + 1]? = some (.cells #[.int .i64 a] 3 (0, 0)) ∧ w'.heap[w.heap.size + 2]? = some (.cells #[.int .i64 z] 3 (0, 0)) ∧ w'.heap[B]? = some (.cells #[.int .i64 n] 3 (0, 0)) ∧ Below w.heap.size w w' ∧ w.heap.size + 3 ≤ B := by
  go_enter Try.func107, Try.ntmps107
  go_wp2_with (go_at_call 79; refine (cells_is _ _ _ _ hn.out).mono ?_; rintro e w' ⟨rfl, hb⟩)
  go_ret
  have hs := hb.size
  simp only [World.size_alloc] at hs
  have hb2 := hb.alloc hb.size (.cells #[.int .i64 n] 3)
  have e0 := heap_alloc_new w (.cells #[.int .i64 r, .int .i64 c] 23)
  have e1 := heap_alloc_new (w.alloc (.cells #[.int .i64 r, .int .i64 c] 23)) (.cells #[.int .i64 a] 3)
  have e2 := heap_alloc_new ((w.alloc (.cells #[.int .i64 r, .int .i64 c] 23)).alloc (.cells #[.int .i64 a] 3)) (.cells #[.int .i64 z] 3)
  simp only [World.size_alloc] at e1 e2
  refine ⟨w'.heap.size, rfl, ?_, ?_, ?_, heap_alloc_new _ _, ?_, by omega⟩
  · rw [hb2.block _ (by simp; omega), Below.heap_alloc _ _ _ (by simp; omega), Below.heap_alloc _ _ _ (by simp)]; exact e0
  · rw [hb2.block _ (by simp), Below.heap_alloc _ _ _ (by simp)]; exact e1
  · rw [hb2.block _ (by simp)]; exact e2
  · exact ((((Below.refl _ w).alloc (Nat.le_refl _) _).alloc (by simp) _).alloc (by simp; omega) _).trans (hb2.mono (by simp; omega))
/-- What the loop begins with. -/
def BetQ (W : World) (bn bp bf b g : Nat) (r c cur : Int) (L : List Cl) (from_ n z : Int) (N : Nat) (v : Value) (W0 X : World) : Prop :=
  ∃ s B, v = .func (.func 133) #[] #[.pointer (some ⟨s + 1, 0, none⟩), .pointer (some ⟨B, 0, none⟩), .pointer (some ⟨s + 2, 0, none⟩), .pointer (some ⟨s, 0, none⟩)] ∧
    Bet4 s B r c from_ z N X ∧ W0.heap.size ≤ s ∧ s + 3 ≤ B ∧ CQ bn bp bf b g r c cur L from_ n W0 X
/-- What the inner loop knows. -/
structure CI (W : World) (J : List CO → World → Prop) (bn bp bf b g : Nat) (r c cur : Int) (L : List Cl) (hok : OkL L) (from_ n z : Int) (N l s B : Nat) (X0 : World) (pre : List Int) (X : World) : Prop where
  j : J (pre.map (atO hok)) X
  it : CIt bn bp bf b g r c cur L from_ n X
  yb : X.heap[W.heap.size]? = some (.cells #[.func (.yield l) #[] #[]] 162 (0, 0))
  b4 : Bet4 s B r c from_ z N X
  le : X0.heap.size ≤ X.heap.size
theorem CI.own {W : World} {J : List CO → World → Prop} {bn bp bf b g : Nat} {r c cur : Int} {L : List Cl} {hok : OkL L} {from_ n z : Int} {N l s B : Nat} {X0 : World} (hJ : OwnFrom W.heap.size J) (h0 : W.heap.size ≤ X0.heap.size) : OwnFrom X0.heap.size (CI W J bn bp bf b g r c cur L hok from_ n z N l s B X0) := by
  intro pre X Y row h hg hr
  have hr' : ∀ r, row = some r → ∃ o : Obj, X.heap[r]? = some o ∧ o.isCells = false := fun r e => (hr r e).2
  exact ⟨ownFrom_up hJ h0 _ X Y row h.j hg hr, h.it.grown hg hr', (cells_kept h.yb hg hr').trans h.yb,
    ⟨(cells_kept h.b4.q1 hg hr').trans h.b4.q1, (cells_kept h.b4.q2 hg hr').trans h.b4.q2, (cells_kept h.b4.q3 hg hr').trans h.b4.q3, (cells_kept h.b4.q4 hg hr').trans h.b4.q4⟩, Nat.le_trans h.le hg.size⟩
theorem keeps_below {N0 : Nat} {A B : World} (h : Below A.heap.size A B) : KeepsFrom N0 A B := ⟨h.size, fun k o _ ho _ => (h.block k (lt_of_block ho)).trans ho⟩
theorem kt_below {S : Nat → Prop} {N0 : Nat} {A B : World} (h : Below A.heap.size A B) (hS : ∀ k, S k → k < A.heap.size) : KT S N0 A B :=
  ⟨keeps_below h, fun k cs t fz _ _ ho => h.block k (lt_of_block ho), fun k hk => h.block k (hS k hk)⟩
theorem CI.next {W : World} {J : List CO → World → Prop} {bn bp bf b g : Nat} {r c cur : Int} {L : List Cl} {hok : OkL L} {from_ n z : Int} {N l s B : Nat} {X0 Y w3 w4 : World} {pre : List Int} {p : Int} {x : Cl} {Ix : Code → List Int → World → Prop} {a : Act}
    (h : CI W J bn bp bf b g r c cur L hok from_ n z N l s B X0 pre Y) (hx : x = atL L p) {ho : x.Ok} (hb : Below Y.heap.size Y w3) (hj : J (pre.map (atO hok) ++ [⟨x, ho⟩]) w4) (hk : KT (CS bn bp bf b g) W.heap.size w3 w4) (hs : W.heap.size + 1 ≤ s ∧ s + 3 ≤ B) (hw : W.heap.size ≤ X0.heap.size) (hY : X0.heap.size ≤ Y.heap.size) :
    ownPostG X0.heap.size (Keep4 (s + 1) B (s + 2) s) (CI W J bn bp bf b g r c cur L hok from_ n z N l s B X0) Ix (pre ++ [p]) Y .normal a w4 := by
  have kt : KT (CS bn bp bf b g) W.heap.size Y w4 := (kt_below hb h.it.low).trans hk
  have n1 : (3 : TypeId) ≠ 5 := by decide
  have n2 : (23 : TypeId) ≠ 5 := by decide
  have n3 : (162 : TypeId) ≠ 5 := by decide
  have e1 := kt.typed s _ _ _ (by omega) n2 h.b4.q1
  have e2 := kt.typed (s + 1) _ _ _ (by omega) n1 h.b4.q2
  have e3 := kt.typed (s + 2) _ _ _ (by omega) n1 h.b4.q3
  have e4 := kt.typed B _ _ _ (by omega) n1 h.b4.q4
  have e5 := kt.typed W.heap.size _ _ _ (by omega) n3 h.yb
  refine ⟨keepsFrom_up kt.others hw, ⟨kt.others.size, ?_⟩, ⟨?_, h.it.keep kt.others.size kt.low, e5.trans h.yb, ⟨e1.trans h.b4.q1, e2.trans h.b4.q2, e3.trans h.b4.q3, e4.trans h.b4.q4⟩, Nat.le_trans h.le kt.others.size⟩⟩
  · rintro k (rfl | rfl | rfl | rfl)
    · exact e2
    · exact e4
    · exact e3
    · exact e1
  · subst hx
    rw [List.map_append, List.map_singleton]; exact hj
theorem ownFrom_ex {Jx : List CO → World → Prop} {W X0 : World} (hJ : OwnFrom W.heap.size Jx) (h0 : W.heap.size ≤ X0.heap.size) (c' : Code) : OwnFrom X0.heap.size (fun (pre : List Int) X => c' = .ret ∧ ∃ q, Jx q X) := by
  rintro pre X Y row ⟨h1, q, h⟩ hg hr
  exact ⟨h1, q, ownFrom_up hJ h0 _ X Y row h hg hr⟩
theorem round_in {F : Fence} {n : Nat} {P : Program} {l : Nat} {f : FuncId} {tmps : Array Value} {assign body : Code} {w : World} {R : Ending → World → Prop} (l' : Nat)
    (h : RoundIn F n P l f tmps assign body w R) : RoundIn (F.inRound l') n P l f tmps assign body w R := h
theorem round_one {F : Fence} {n : Nat} {P : Program} {l : Nat} {f : FuncId} {tmps : Array Value} {assign body : Code} {w : World} {A B : World → Prop}
    (h : RoundIn F n P l f tmps assign body w fun e W' => (e = .returned (.bool true) ∧ A W') ∨ (e = .returned (.bool false) ∧ B W')) : RoundIn F n P l f tmps assign body w fun e W' => ∃ v : Bool, e = .returned (.bool v) ∧ (v = true → A W') ∧ (v = false → B W') := by
  refine RoundIn.mono h ?_
  rintro e W' (⟨rfl, h⟩ | ⟨rfl, h⟩)
  · exact ⟨true, rfl, fun _ => h, fun e => by cases e⟩
  · exact ⟨false, rfl, fun e => (by cases e), fun _ => h⟩
set_option maxRecDepth 100000 in
set_option maxHeartbeats 4000000 in
theorem cells_stops {w : World} {bn bp bf b g : Nat} {r c cur : Int} {L : List Cl} {from_ n : Int} (h : CIt bn bp bf b g r c cur L from_ n w) (hok : OkL L) :
    SeqO Fence.wide 3 Try.prog 113 #[.pointer (some ⟨bn, 0, none⟩), .pointer (some ⟨bp, 0, none⟩), .pointer (some ⟨bf, 0, none⟩)] (fun x : CO => #[x.1.val]) (KT (CS bn bp bf b g)) (fun ys => ys = cellsO hok from_ n) (fun pre => True) (cellsO hok from_ n).length 0 w := by
  intro l J Jx W hW hJ hJx hY h0
  have HI := Lib.hid (h.below hW)
  have HJ := Lib.hid hJ
  have HJx := Lib.hid hJx
  have HY := Lib.hid hY
  have H0 := Lib.hid h0
  clear hW hJ hJx hY h0 h
  have hb0 : Below W.heap.size W (W.alloc (.cells #[.func (.yield l) #[] #[]] 162)) := below_alloc _ _
  have hi0 := HI.out.below hb0
  have HI0 := Lib.hid hi0
  have y0 : (W.alloc (.cells #[.func (.yield l) #[] #[]] 162)).heap[W.heap.size]? = some (.cells #[.func (.yield l) #[] #[]] 162 (0, 0)) := heap_alloc_new _ _
  have HB0 := Lib.hid hb0
  have n0 : (W.alloc (.cells #[.func (.yield l) #[] #[]] 162)).cell? ⟨bn, 0, none⟩ = some (.int .i64 n) := by simp only [World.cell?, hi0.hn]; rfl
  have p0 : (W.alloc (.cells #[.func (.yield l) #[] #[]] 162)).cell? ⟨bp, 0, none⟩ = some (.pointer (some ⟨b, 0, none⟩)) := by simp only [World.cell?, hi0.hp]; rfl
  have f0 : (W.alloc (.cells #[.func (.yield l) #[] #[]] 162)).cell? ⟨bf, 0, none⟩ = some (.int .i64 from_) := by simp only [World.cell?, hi0.hf]; rfl
  have Y0 := Lib.hid y0
  clear hb0 y0 hi0
  refine callsIn_of_wp_marks Try.func113 rfl trivial ?_ rfl
  simp only [Try.ntmps113, List.size_toArray, List.length_cons, List.length_nil, Nat.reduceAdd, Nat.reduceSub, Array.replicate_succ, Array.replicate_zero, List.push_toArray, List.append_toArray, List.nil_append, List.cons_append]
  by_cases hn0 : n ≤ 0
  · gi_wp2
    exact ⟨_, results_none rfl _ _ _, ⟨_, rfl⟩, .inl (by unfold cellsO; rw [if_pos hn0]; exact HJ.out [] W _ none H0.out (grown_of_below HB0.out) (fun _ e => by cases e))⟩
  · have hmx := HI0.out.pl.most
    have hcel : Hid (cells r c = (L.length : Nat)) := HI0.out.pl.size
    obtain ⟨N, hN⟩ : ∃ N, N = L.length := ⟨_, rfl⟩
    obtain ⟨z, hz⟩ : ∃ z, z = mv N from_ (min n (N : Int)) := ⟨_, rfl⟩
    have HLEN : Hid (∀ X, PlAt X b g r c cur L → Calls Try.prog 39 #[.pointer (some ⟨b, 0, none⟩)] X fun e X' => e = .returned (.int .i64 (N : Nat)) ∧ X = X') := by rw [hN]; exact fun X hX => len_any hX
    have HMV : Hid (∀ X, Calls Try.prog 84 #[.agg #[.int .i64 r, .int .i64 c], .int .i64 from_, .int .i64 (min n (N : Int))] X fun e X' => e = .returned (.int .i64 z) ∧ Below X.heap.size X X') := by
      rw [hz, hN]; exact fun X => move_any r c from_ _ L.length X hcel (by omega) (by omega)
    have HZ := Lib.hid hz
    have HN := Lib.hid hN
    rw [← hN] at hmx
    have hcel' : Hid (cells r c = (N : Nat)) := by rw [hN]; exact hcel
    clear hz hN
    have hmix : Try.prog.follows Departure.mixedOrders = true := by kernel_rfl
    have hsz := size_any HI0.out.pl.drew
    have HSZ := Lib.hid hsz
    clear hsz
    gi_upto_region 2 with fail
    gi_cut [5] from 7 (fun s5 wc => s5 = .int .i64 z ∧ CQ bn bp bf b g r c cur L from_ n (W.alloc (.cells #[.func (.yield l) #[] #[]] 162)) wc)
    case first =>
      refine wpIn_wide.2 ?_
      have k0 : CQ bn bp bf b g r c cur L from_ n (W.alloc (.cells #[.func (.yield l) #[] #[]] 162)) (W.alloc (.cells #[.func (.yield l) #[] #[]] 162)) := ⟨HI0.out, Below.refl _ _⟩
      have K0 := Lib.hid k0
      clear k0
      go_region_held3 (fun X => X.cell? ⟨bn, 0, none⟩ = some (.int .i64 n) ∧ X.cell? ⟨bp, 0, none⟩ = some (.pointer (some ⟨b, 0, none⟩)) ∧ X.cell? ⟨bf, 0, none⟩ = some (.int .i64 from_) ∧ CQ bn bp bf b g r c cur L from_ n (W.alloc (.cells #[.func (.yield l) #[] #[]] 162)) X)
        (with_reducible (first | assumption | exact CQ.s K0.out | exact CQ.s (CQ.drew K0.out) | exact CQ.s (by assumption)))
        (first
          | (go_at_call 78; refine (size_any (CQ.pl (CQ.drew K0.out))).mono ?_; rintro e w1 ⟨rfl, hb1⟩; have K1 := CQ.below (CQ.drew K0.out) hb1; clear hb1)
          | (go_at_call 39; refine (HLEN.out _ (CQ.pl K1)).mono ?_; rintro e w2 ⟨rfl, rfl⟩)
          | (go_at_call 84; refine (HMV.out _).mono ?_; rintro e w3 ⟨rfl, hb3⟩; have K3 := CQ.below K1 hb3; clear hb3))
      gi_wp2_with fail
      gi_meet
      case rel => exact ⟨rfl, K3⟩
    case rest =>
      obtain ⟨rfl, K1⟩ := hcut
      have K1' := Lib.hid K1
      obtain ⟨n0, p0, f0, _⟩ := K1.s
      clear K1 HLEN HMV HSZ
      gi_upto_region 3 with fail
      gi_cut [21] from 7 (fun v X => BetQ W bn bp bf b g r c cur L from_ n z N v (W.alloc (.cells #[.func (.yield l) #[] #[]] 162)) X)
      case first =>
        refine wpIn_wide.2 ?_
        go_region_held3 (fun X => X.cell? ⟨bn, 0, none⟩ = some (.int .i64 n) ∧ X.cell? ⟨bp, 0, none⟩ = some (.pointer (some ⟨b, 0, none⟩)) ∧ X.cell? ⟨bf, 0, none⟩ = some (.int .i64 from_) ∧ CQ bn bp bf b g r c cur L from_ n (W.alloc (.cells #[.func (.yield l) #[] #[]] 162)) X)
          (with_reducible (first | assumption | exact CQ.s K1'.out | exact CQ.s (CQ.drew K1'.out) | exact CQ.s (by assumption)))
          (first
            | (go_at_call 78; refine (size_any (CQ.pl (CQ.drew K1'.out))).mono ?_; rintro e w1 ⟨rfl, hb1⟩; have K2 := CQ.below (CQ.drew K1'.out) hb1; clear hb1)
            | (go_at_call 107; refine (between_h r c from_ z N _ hcel').mono ?_; rintro e w3 ⟨B, rfl, q1, q2, q3, q4, hb3, hBB⟩; have K3 := CQ.below K2 hb3; have K4 := Lib.hid hb3; have K5 := Lib.hid hBB; have K6 := Lib.hid (Bet4.mk q1 q2 q3 q4); clear hb3 hBB q1 q2 q3 q4))
        gi_wp2_with fail
        gi_meet
        case rel => exact ⟨w1.heap.size, B, rfl, K6.out, by have := (CQ.old K2).size; omega, K5.out, K3⟩
      case rest =>
        obtain ⟨s, B, rfl, hB4, hs1, hs2, K2⟩ := hcut
        clear n0 p0 f0 K1'
        have hNle : W.heap.size + 1 ≤ s := by simpa using hs1
        have hs3 : W.heap.size + 1 ≤ s ∧ s + 3 ≤ B := ⟨hNle, hs2⟩
        have hB := K2.old.size
        rw [World.size_alloc] at hB
        have ls0 := lt_of_block hB4.q1
        have ls1 := lt_of_block hB4.q2
        have ls2 := lt_of_block hB4.q3
        have ls3 := lt_of_block hB4.q4
        have hyb : wc.heap[W.heap.size]? = some (.cells #[.func (.yield l) #[] #[]] 162 (0, 0)) := (K2.old.block _ (by simp)).trans Y0.out
        have hWX : Below W.heap.size W wc := HB0.out.trans (K2.old.mono (by simp))
        have hJ0 : J [] wc := HJ.out [] W wc none H0.out (grown_of_below hWX) (fun _ e => by cases e)
        have hci : CI W J bn bp bf b g r c cur L hok from_ n z N l s B wc [] wc := ⟨hJ0, K2.it, hyb, hB4, Nat.le_refl _⟩
        have hwcs : W.heap.size ≤ wc.heap.size := by omega
        have HCI := Lib.hid hci
        have HB4 := Lib.hid hB4
        clear hci hB4 hyb hJ0 K2 hWX
        gi_wp2_with fail
        refine range_gen (α := Int) rfl (by omega) (gf := 133) rfl trivial (enters_of Try.func133 (by kernel_rfl) rfl)
          (SeqO.of_stops (betw_stops2 2 (by omega) _ _ _ _ from_ N z r c hcel' wc HB4.out.iter) (fun h => h.1)) Keep4.trans ?hKb (Below.refl _ _) (fun _ => rfl)
          (CI W J bn bp bf b g r c cur L hok from_ n z N l s B wc) (fun c' pre X => c' = .ret ∧ ∃ q, Jx q X) (CI.own HJ.out hwcs) (fun c' => ownFrom_ex HJx.out hwcs c') HCI.out
          (fun p a' _ => a' = { tmps := #[.func (.yield l) #[] #[], .pointer (some ⟨bn, 0, none⟩), .pointer (some ⟨bp, 0, none⟩), .pointer (some ⟨bf, 0, none⟩), .pointer (some ⟨W.heap.size, 0, none⟩), .int .i64 z, .int .i64 p, u7, u8, u9, u10, u11, u12, u13, u14, u15, u16, u17, u18, u19, u20, .func (.func 133) #[] #[.pointer (some ⟨s + 1, 0, none⟩), .pointer (some ⟨B, 0, none⟩), .pointer (some ⟨s + 2, 0, none⟩), .pointer (some ⟨s, 0, none⟩)], .int .i64 p, u23, u24, u25, u26, u27, u28], defers := [] }) (fun _ _ _ _ _ _ h _ _ => h) ?assign ?body ?done ?stop
        case hKb =>
          intro X o o' ho hc
          refine ⟨(grownBy_putObj' X (wc.heap.size + 1) o').size, fun k hk => (grownBy_putObj' X (wc.heap.size + 1) o').block k ?_ ?_⟩
          · have := lt_of_block ho
            rcases hk with rfl | rfl | rfl | rfl <;> omega
          · intro e; cases e
            rcases hk with hk | hk | hk | hk <;> omega
        case assign =>
          intro l' pre p X K hI' hK
          gi_wp2
          exact hK _ _ (KeepsFrom.refl _ _) (Keep4.refl _ _ _ _ _) hI' rfl
        case body =>
          rintro l' pre p a' Y hI' rfl hlt hYs
          rw [Nat.add_zero] at hYs
          have y1 : Y.cell? ⟨W.heap.size, 0, none⟩ = some (.func (.yield l) #[] #[]) := by simp [World.cell?, hI'.yb]
          have y2 : Y.cell? ⟨bp, 0, none⟩ = some (.pointer (some ⟨b, 0, none⟩)) := by simp [World.cell?, hI'.it.hp]
          have hlt' : (pre.map (atO hok)).length < (cellsO hok from_ n).length := by
            unfold cellsO; rw [if_neg (by omega), List.length_map, List.length_map, ← HN.out, ← HZ.out]; exact hlt
          obtain ⟨x, hx⟩ : ∃ x, x = atL L p := ⟨_, rfl⟩
          have HX := Lib.hid hx
          have HI' := Lib.hid hI'
          have hat := at_is (i := p) hI'.it.pl.drew hx
          have HAT := Lib.hid hat
          clear hat hx hI'
          have h11 : 1 ≤ 3 - 1 - 1 := by omega
          gi_wp2_with fail
          gi_region_with_o (first
            | (refine ⟨trivial, ?_⟩; gi_at_call 40; (with_reducible refine (CallsIn.inRound l' (callsIn_wide.2 HAT.out)).mono ?_); rintro e w3 ⟨rfl, hb3⟩; have z1 := cell_later hb3 y1; have z2 := cell_later hb3 y2; obtain ⟨fn, tmps, assign, bodyc, hy, hR⟩ := yield_deep rfl 0 (HY.out (pre.map (atO hok)) ⟨x, HX.out ▸ atL_ok hok p⟩ w3 (HJ.out _ Y w3 none HI'.out.j (grown_of_below (below_undrew hb3)) (fun _ e => by cases e)) hlt' (by have := hb3.size; have h2 : Y.drew.heap.size = Y.heap.size := rfl; omega)); have HB3 := Lib.hid (below_undrew hb3); have HR := Lib.hid (round_in l' (round_one hR)); clear hb3 hR)
            | ((with_reducible refine RoundIn.mono HR.out ?_); rintro e w4 ⟨v, rfl, hv⟩; have HV := Lib.hid hv; clear hv))
          all_goals
            cases v with
            | true =>
              obtain ⟨hj, hk⟩ := HV.out.1 rfl
              clear HR
              gi_wp2
              exact CI.next HI'.out HX.out HB3.out hj hk hs3 hwcs (by omega)
            | false =>
              obtain ⟨hj, hk⟩ := HV.out.2 rfl
              clear HR
              gi_wp2
              exact ⟨keepsFrom_up ((keeps_below HB3.out).trans hk) hwcs, rfl, _, hj⟩
        case done =>
          rintro D ys X hD rfl hI' hK
          have HI' := Lib.hid hI'
          clear hI'
          gi_wp2
          refine ⟨by simp, .inl ⟨_, _, rfl, run_takeDeferred hK, ?_⟩⟩
          refine ⟨_, results_none rfl _ _ _, ⟨_, rfl⟩, .inl ⟨_, rfl, ?_⟩⟩
          have e : cellsO hok from_ n = (betw N from_ z).map (atO hok) := by unfold cellsO; rw [if_neg (by omega), HZ.out, HN.out]
          rw [e]
          exact HJ.out.putObj _ HI'.out.j (show W.heap.size ≤ D by omega) hK rfl
        case stop =>
          rintro D c' pre X hD hpre ⟨rfl, q, hq⟩ hK
          have HQ := Lib.hid hq
          clear hq
          gi_wp2
          refine ⟨by simp, .inl ⟨_, _, rfl, run_takeDeferred hK, ?_⟩⟩
          refine ⟨_, results_none rfl _ _ _, ⟨_, rfl⟩, .inr ⟨q, trivial, ?_⟩⟩
          exact HJx.out.putObj _ HQ.out (show W.heap.size ≤ D by omega) hK rfl
end Go.Proofs.Ytgjhboikfbafcaa.Pl
