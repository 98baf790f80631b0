/-
  The reference's options: contract of its Got.
-/
import Derived.Test.YtimidoaafllnkaaOptRefB
namespace Go.Proofs.Ytimidoaafllnkaa.Opt
open Go.RowKit Base
set_option linter.unusedVariables false

theorem results_row_tmp {fn : Func} {p u : Tmp} {ty : TypeId} (h : fn.results = #[.cell p ty, .tmp u]) (tmps : Array Value) (w : World) (g : Nat) (cs : Array Value)
    (hp : tmps.getD p undef = .pointer (some ⟨g, 0, none⟩)) (hrun : (loadVar ty ⟨g, 0, none⟩).run Try.prog w = .ok (.agg cs) w) :
    (results fn tmps).run Try.prog w = .ok (.tuple #[.agg cs, tmps.getD u undef]) w := by
  rw [results_cell_tmp h, hp]
  simp [asAddr, hrun, Result.andThen]
/-- What Got and Want hold: their argument in block s, their result in the next. -/
structure GS (base s : Nat) (w : World) (y z v : Value) (L : List One) (A B : List Int) (wr : World) : Prop where
  box : wr.heap[s]? = some (.cells #[v, y, z] 46 (0, 0))
  res : wr.heap[s + 1]? = some (.cells #[.slice none 0 0, .slice none 0 0, .slice none 0 0] 46 (0, 0))
  row : OneRow base wr v L
  ry : RowOf .u8 wr y A
  rz : RowOf .u8 wr z B
  old : Below s w wr
theorem GS.lt {base s : Nat} {w : World} {y z v : Value} {L : List One} {A B : List Int} {wr : World} (h : GS base s w y z v L A B wr) : s + 2 ≤ wr.heap.size := by have := lt_of_block h.res; omega
theorem GS.below {base s : Nat} {w : World} {y z v : Value} {L : List One} {A B : List Int} {wr w' : World} (h : GS base s w y z v L A B wr) (t : Below wr.heap.size wr w') : GS base s w y z v L A B w' :=
  ⟨(t.block s (lt_of_block h.box)).trans h.box, (t.block (s + 1) (lt_of_block h.res)).trans h.res, h.row.below t, h.ry.below t, h.rz.below t, h.old.trans (t.mono (by have := h.lt; omega))⟩
theorem GS.cells {base s : Nat} {w : World} {y z v : Value} {L : List One} {A B : List Int} {wr : World} (h : GS base s w y z v L A B wr) :
    wr.cell? ⟨s, 0, none⟩ = some v ∧ wr.cell? ⟨s, 1, none⟩ = some y ∧ wr.cell? ⟨s, 2, none⟩ = some z ∧ wr.cell? ⟨s + 1, 0, none⟩ = some (.slice none 0 0) ∧ wr.cell? ⟨s + 1, 1, none⟩ = some (.slice none 0 0) ∧ wr.cell? ⟨s + 1, 2, none⟩ = some (.slice none 0 0) ∧ (∀ o, wr.frozen? ⟨s + 1, o, none⟩ = false) :=
  ⟨by simp [World.cell?, h.box], by simp [World.cell?, h.box], by simp [World.cell?, h.box], by simp [World.cell?, h.res], by simp [World.cell?, h.res], by simp [World.cell?, h.res], fun o => by simp [World.frozen?, h.res]⟩
theorem gs_new {base s : Nat} {w W0 : World} {y z v : Value} {L : List One} {A B : List Int} (hs : s = w.heap.size) (hW : W0 = (w.alloc (.cells #[v, y, z] 46)).alloc (.cells #[.slice none 0 0, .slice none 0 0, .slice none 0 0] 46))
    (hr : OneRow base w v L) (hy : RowOf .u8 w y A) (hz : RowOf .u8 w z B) : GS base s w y z v L A B W0 := by
  have z1 : ∀ o, (w.alloc o).heap.size = s + 1 := fun o => by rw [World.size_alloc, hs]
  have hb : Below w.heap.size w W0 := by rw [hW]; exact (below_alloc w _).trans ((below_alloc _ _).mono (by rw [z1]; omega))
  refine ⟨?_, ?_, hr.below hb, hy.below hb, hz.below hb, by rw [hs]; exact hb⟩
  · rw [hW, Below.heap_alloc _ _ _ (by rw [z1]; omega), hs]
    exact heap_alloc_new w _
  · rw [hW]
    have := heap_alloc_new (w.alloc (.cells #[v, y, z] 46)) (.cells #[.slice none 0 0, .slice none 0 0, .slice none 0 0] 46)
    rw [z1] at this
    exact this
def put3 (wr : World) (g : Nat) (a b c : Value) : World := ((wr.setCell ⟨g, 0, none⟩ a).setCell ⟨g, 1, none⟩ b).setCell ⟨g, 2, none⟩ c
theorem put3_block (wr : World) (g : Nat) (a b c : Value) (k : Nat) (h : k ≠ g) : (put3 wr g a b c).heap[k]? = wr.heap[k]? := by
  unfold put3
  rw [Below.heap_setCell _ _ _ _ (by exact h), Below.heap_setCell _ _ _ _ (by exact h), Below.heap_setCell _ _ _ _ (by exact h)]
theorem put3_turn (wr : World) (g : Nat) (a b c : Value) : Turn (At g) wr (put3 wr g a b c) :=
  ((turn_set wr g 0 a).trans (turn_set _ g 1 b)).trans (turn_set _ g 2 c)
/-- What a call answers: options, and bytes. -/
def GotR (base : Nat) (y z : Value) (L' : List One) (X : List Int) (w : World) (e : Ending) (w' : World) : Prop :=
  ∃ v' u, e = .returned (.tuple #[.agg #[v', y, z], u]) ∧ OneRow base w' v' L' ∧ RowIn (fun k => w.heap.size ≤ k) .u8 w' u X ∧ Below w.heap.size w w'
theorem OneRow.keep' {base : Nat} {w w' : World} {v : Value} {L : List One} (h : OneRow base w v L) (u : ∀ g, v.ownBlock = some g → w'.heap[g]? = w.heap[g]?) : OneRow base w' v L := by
  refine ⟨h.1, ?_⟩
  rcases h.2 with h0 | ⟨g, cap, cur, rfl, hg, hgb, rest⟩
  · exact .inl h0
  · exact .inr ⟨g, cap, cur, rfl, hg, (u g rfl).trans hgb, rest⟩
theorem OneRow.own_lt {base : Nat} {w : World} {v : Value} {L : List One} (h : OneRow base w v L) : ∀ g, v.ownBlock = some g → g < w.heap.size := fun g e => by
  rcases h.2 with ⟨rfl, _⟩ | ⟨r, cap, cur, rfl, hg', hb, _⟩
  · cases e
  · obtain rfl : g = r := by simpa [Value.ownBlock, eq_comm] using e
    exact lt_of_block hb
theorem GotR.mk {base s : Nat} {w wr : World} {y z v' u : Value} {L' : List One} {X : List Int} (hs : s = w.heap.size) (hz : s + 2 ≤ wr.heap.size) (ho : Below s w wr) (hr : OneRow base wr v' L') (hne : ∀ g, v'.ownBlock = some g → g ≠ s + 1) (hu : RowIn (fun k => s + 2 ≤ k) .u8 wr u X) :
    GotR base y z L' X w (.returned (.tuple #[.agg #[v', y, z], u])) (put3 wr (s + 1) v' y z) := by
  have ht := put3_turn wr (s + 1) v' y z
  refine ⟨v', u, rfl, hr.keep' fun g hg => put3_block wr (s + 1) v' y z g (hne g hg), (hu.turn ht fun k hk => by unfold At; omega).mono fun k hk => by omega, ?_⟩
  have := ho.trans (ht.at_below (B := s) (by omega) (by omega))
  rw [hs] at this ⊢
  exact this
/-- What the reference's Got answers. -/
def rgotR (A B : List Int) (L : List One) (c : Int) (o : Nat) : List One × List Int :=
  if c = 251 then (setL L false o (onS ((listOf false A B).any fun x => x == (o : Int)) (stL L false o)).1, sayL false (onS ((listOf false A B).any fun x => x == (o : Int)) (stL L false o)).2 o)
  else if c = 252 then (setL L false o (offS (stL L false o)).1, sayL false (offS (stL L false o)).2 o)
  else if c = 253 then (setL L true o (onS ((listOf true A B).any fun x => x == (o : Int)) (stL L true o)).1, sayL true (onS ((listOf true A B).any fun x => x == (o : Int)) (stL L true o)).2 o)
  else if c = 254 then (setL L true o (offS (stL L true o)).1, sayL true (offS (stL L true o)).2 o)
  else (L, [])
set_option maxRecDepth 100000 in
set_option maxHeartbeats 8000000 in
theorem rgot_any (base : Nat) (v : Value) (ya za : Option Addr) (yc zc : Nat) (L : List One) (A B : List Int) (c o : Nat) (w : World) (h : OneRow base w v L) (hl : L.length ≤ 200) (hst : ∀ ours, stL L ours o ≤ 5) (hc : c < 256)
    (hy : RowOf .u8 w (.slice ya A.length yc) A) (hz : RowOf .u8 w (.slice za B.length zc) B) (hA : A.length ≤ maxLen) (hB : B.length ≤ maxLen) (hbase : base ≤ w.heap.size) :
    Calls Try.prog 75 #[.agg #[v, .slice ya A.length yc, .slice za B.length zc], .int .u8 c, .int .u8 o] w (GotR base (.slice ya A.length yc) (.slice za B.length zc) (rgotR A B L c o).1 (rgotR A B L c o).2 w) := by
  have hzero := (zero_of_info info_ro).1
  obtain ⟨a, cap, rfl, _⟩ := h.read
  obtain ⟨n, hn⟩ : ∃ n, n = L.length := ⟨_, rfl⟩
  obtain ⟨na, hna⟩ : ∃ n, n = A.length := ⟨_, rfl⟩
  obtain ⟨nb, hnb⟩ : ∃ n, n = B.length := ⟨_, rfl⟩
  rw [← hn] at h hl ⊢
  rw [← hna] at hy ⊢
  rw [← hnb] at hz ⊢
  obtain ⟨s, hs⟩ : ∃ s, s = w.heap.size := ⟨_, rfl⟩
  obtain ⟨W0, hW⟩ : ∃ W0, W0 = (w.alloc (.cells #[.slice a n cap, .slice ya na yc, .slice za nb zc] 46)).alloc (.cells #[.slice none 0 0, .slice none 0 0, .slice none 0 0] 46) := ⟨_, rfl⟩
  have G0 := gs_new hs hW h hy hz
  have hown := h.own_lt
  have HW := Lib.hid hW.symm
  have HS := Lib.hid hs
  have HG := Lib.hid G0
  have HST := Lib.hid hst
  have HOWN := Lib.hid hown
  have HN := Lib.hid hn
  have HAB := Lib.hid (And.intro hA hB)
  have hWsz : W0.heap.size = s + 2 := by rw [hW, World.size_alloc, World.size_alloc, hs]
  have HWSZ := Lib.hid hWsz
  have HROW := Lib.hid h
  have HBASE := Lib.hid hbase
  clear hn hna hnb hW hs G0 h hst hA hB hy hz hown hWsz
  have hcase : c = 251 ∨ c = 252 ∨ c = 253 ∨ c = 254 ∨ c < 251 ∨ c = 255 := by omega
  rcases hcase with rfl | rfl | rfl | rfl | h | h
  · rw [show rgotR A B L (251 : Nat) o = (setL L false o (onS ((listOf false A B).any fun x => x == (o : Int)) (stL L false o)).1, sayL false (onS ((listOf false A B).any fun x => x == (o : Int)) (stL L false o)).2 o) from rfl]
    obtain ⟨e0, e1, e2, r0, r1, r2, fr⟩ := HG.out.cells
    have hlo := HG.out.lt
    obtain ⟨mm, hmm⟩ : ∃ mm, mm = ((listOf false A B).any fun x => x == (o : Int)) := ⟨_, rfl⟩
    rw [← hmm]
    have HMM := Lib.hid hmm
    clear hmm
    go_enter Try.func75, Try.ntmps75
    go_wp2_with fail
    rw [HW.out]
    refine (rstate_any base _ _ _ L false o W0 HG.out.row (by rw [← HN.out]; omega)).mono ?_
    rintro e w1 ⟨rfl, b1⟩
    have G1 := HG.out.below b1
    obtain ⟨was, hwas⟩ : ∃ was, was = stL L false o := ⟨_, rfl⟩
    have hw5 := HST.out false
    rw [← hwas] at hw5 ⊢
    have hls : s + 1 < w1.heap.size := by have := b1.size; have := HWSZ.out; omega
    have hls0 : s < w1.heap.size := by omega
    have HG1 := Lib.hid G1
    have HBL := Lib.hid (show ∀ (X Y : Obj) (k : Nat), Below w1.heap.size w1 (((w1.alloc X).alloc Y).drewN k) from fun X Y k => below_drewN ((below_alloc w1 X).trans ((below_alloc _ Y).mono (by simp))) k)
    have HWAS := Lib.hid hwas
    clear e0 e1 e2 r0 r1 r2 fr hlo b1 G1 hwas HG HW
    obtain ⟨e0, e1, e2, r0, r1, r2, fr⟩ := HG1.out.cells
    go_upto_if 36 with fail
    rw [← HS.out]
    go_cut [11, 12] (fun nx sy wx => nx = .int .i64 (onS mm was : Nat × Nat).1 ∧ sy = .int .i64 (onS mm was : Nat × Nat).2 ∧ GS base s w (.slice ya na yc) (.slice za nb zc) (.slice a n cap) L A B wx)
    case first =>
      have hcase : was = 0 ∨ was = 1 ∨ was = 2 ∨ was = 3 ∨ was = 4 ∨ was = 5 := by omega
      rcases hcase with rfl | rfl | rfl | rfl | rfl | rfl
      · go_wp2_with fail
        go_quiet (fail)
        go_wp2_with fail
        refine (may_any (.slice ya na yc) (.slice za nb zc) A B (.slice a n cap) false (o : Int) _ (HG1.out.below (HBL.out _ _ _)).ry (HG1.out.below (HBL.out _ _ _)).rz HAB.out.1 HAB.out.2).mono ?_
        rintro e w2 ⟨rfl, b2⟩
        rw [← HMM.out]
        have HG2 := Lib.hid ((HG1.out.below (HBL.out _ _ _)).below b2)
        clear b2
        cases mm
        · go_wp2_with fail
          go_meet
          exact ⟨rfl, rfl, HG2.out⟩
        · go_wp2_with fail
          go_meet
          exact ⟨rfl, rfl, HG2.out⟩
      · go_wp2_with fail
        go_quiet (fail)
        go_wp2_with fail
        go_meet
        exact ⟨rfl, rfl, HG1.out.below (HBL.out _ _ _)⟩
      · go_wp2_with fail
        go_quiet (fail)
        go_wp2_with fail
        go_meet
        exact ⟨rfl, rfl, HG1.out.below (HBL.out _ _ _)⟩
      · go_wp2_with fail
        go_quiet (fail)
        go_wp2_with fail
        go_meet
        exact ⟨rfl, rfl, HG1.out.below (HBL.out _ _ _)⟩
      · go_wp2_with fail
        go_quiet (fail)
        go_wp2_with fail
        go_meet
        exact ⟨rfl, rfl, HG1.out.below (HBL.out _ _ _)⟩
      · go_wp2_with fail
        go_quiet (fail)
        go_wp2_with fail
        go_meet
        exact ⟨rfl, rfl, HG1.out.below (HBL.out _ _ _)⟩
    case rest =>
      obtain ⟨rfl, rfl, G3⟩ := hcut
      have hn1 : (onS mm was : Nat × Nat).1 ≤ 5 := onS_state _ _ (by omega)
      have hn2 : (onS mm was : Nat × Nat).2 ≤ 2 := onS_word _ _
      obtain ⟨nx, hnx⟩ : ∃ nx, nx = (onS mm was : Nat × Nat).1 := ⟨_, rfl⟩
      obtain ⟨sy, hsy⟩ : ∃ sy, sy = (onS mm was : Nat × Nat).2 := ⟨_, rfl⟩
      rw [← hnx] at hn1 ⊢
      rw [← hsy] at hn2 ⊢
      clear e0 e1 e2 r0 r1 r2 fr hls hls0 HG1 HBL hw5
      have HG3 := Lib.hid G3
      obtain ⟨e0, e1, e2, r0, r1, r2, fr⟩ := G3.cells
      have hset : setL L false o (onS mm (stL L false o)).1 = setL L false o nx := by rw [hnx, HWAS.out]
      have hsay : sayL false (onS mm (stL L false o)).2 o = sayL false sy o := by rw [hsy, HWAS.out]
      have HSET := Lib.hid hset
      have HSAY := Lib.hid hsay
      clear G3 hnx hsy hset hsay
      go_wp2_with fail
      refine (rset_any base _ ya za na yc nb zc L false o nx wc HG3.out.row (by rw [← HN.out]; omega) hn1).mono ?_
      rintro e w4 ⟨v4, rfl, R4, b4⟩
      obtain ⟨va, vc, rfl⟩ := R4.slice
      obtain ⟨m, hm⟩ : ∃ m, m = (setL L false o nx).length := ⟨_, rfl⟩
      rw [← hm] at R4 ⊢
      have HR4 := Lib.hid R4
      have HG4 := Lib.hid (HG3.out.below b4)
      have HM := Lib.hid hm
      have HWC := Lib.hid (HG3.out.lt)
      clear e0 e1 e2 r0 r1 r2 fr b4 R4 hm
      go_wp2_with fail
      refine (rword_any false o sy hn2 w4).mono ?_
      rintro e w5 ⟨u5, rfl, R5, b5⟩
      have HG5 := Lib.hid (HG4.out.below b5)
      have HR5 := Lib.hid (R5.mono (S' := fun k => s + 2 ≤ k) fun k hk => by have := HG4.out.lt; omega)
      have HR4 := Lib.hid (HR4.out.below b5)
      have hlo := HG5.out.lt
      obtain ⟨e0, e1, e2, r0, r1, r2, fr⟩ := HG5.out.cells
      have hfin : (put3 w5 (s + 1) (.slice va m vc) (.slice ya na yc) (.slice za nb zc)).heap[s + 1]? = some (.cells #[.slice va m vc, .slice ya na yc, .slice za nb zc] 46 (0, 0)) :=
        heap_set (heap_set (heap_set HG5.out.res 0 (.slice va m vc)) 1 (.slice ya na yc)) 2 (.slice za nb zc)
      have HRUN := Lib.hid (run_loadVar_row _ (s + 1) 46 46 #[.slice va m vc, .slice ya na yc, .slice za nb zc] (0, 0) _ hfin Try.underlying46 rfl size_ro)
      clear R5 b5 hfin
      go_wp2_with fail
      (try simp only [Exit.inBlock, Exit.then])
      refine bodyPost_ret (results_row_tmp rfl _ _ (s + 1) _ rfl HRUN.out) rfl ?_
      rw [HSET.out, HSAY.out]
      have hwc := HWC.out
      have := HBASE.out
      exact GotR.mk HS.out hlo HG5.out.old (HR4.out.base (by have := HS.out; omega)) (fun g hg => by have := own_first HR4.out g hg; omega) HR5.out
  · rw [show rgotR A B L (252 : Nat) o = (setL L false o (offS (stL L false o)).1, sayL false (offS (stL L false o)).2 o) from rfl]
    obtain ⟨e0, e1, e2, r0, r1, r2, fr⟩ := HG.out.cells
    have hlo := HG.out.lt
    go_enter Try.func75, Try.ntmps75
    go_wp2_with fail
    rw [HW.out]
    refine (rstate_any base _ _ _ L false o W0 HG.out.row (by rw [← HN.out]; omega)).mono ?_
    rintro e w1 ⟨rfl, b1⟩
    have G1 := HG.out.below b1
    obtain ⟨was, hwas⟩ : ∃ was, was = stL L false o := ⟨_, rfl⟩
    have hw5 := HST.out false
    rw [← hwas] at hw5 ⊢
    have hls : s + 1 < w1.heap.size := by have := b1.size; have := HWSZ.out; omega
    have hls0 : s < w1.heap.size := by omega
    have HG1 := Lib.hid G1
    have HBL := Lib.hid (show ∀ (X Y : Obj) (k : Nat), Below w1.heap.size w1 (((w1.alloc X).alloc Y).drewN k) from fun X Y k => below_drewN ((below_alloc w1 X).trans ((below_alloc _ Y).mono (by simp))) k)
    have HWAS := Lib.hid hwas
    clear e0 e1 e2 r0 r1 r2 fr hlo b1 G1 hwas HG HW
    obtain ⟨e0, e1, e2, r0, r1, r2, fr⟩ := HG1.out.cells
    go_upto_if 36 with fail
    rw [← HS.out]
    go_cut [11, 12] (fun nx sy wx => nx = .int .i64 (offS was : Nat × Nat).1 ∧ sy = .int .i64 (offS was : Nat × Nat).2 ∧ GS base s w (.slice ya na yc) (.slice za nb zc) (.slice a n cap) L A B wx)
    case first =>
      have hcase : was = 0 ∨ was = 1 ∨ was = 2 ∨ was = 3 ∨ was = 4 ∨ was = 5 := by omega
      rcases hcase with rfl | rfl | rfl | rfl | rfl | rfl
      · go_wp2_with fail
        go_quiet (fail)
        go_wp2_with fail
        go_meet
        exact ⟨rfl, rfl, HG1.out.below (HBL.out _ _ _)⟩
      · go_wp2_with fail
        go_quiet (fail)
        go_wp2_with fail
        go_meet
        exact ⟨rfl, rfl, HG1.out.below (HBL.out _ _ _)⟩
      · go_wp2_with fail
        go_quiet (fail)
        go_wp2_with fail
        go_meet
        exact ⟨rfl, rfl, HG1.out.below (HBL.out _ _ _)⟩
      · go_wp2_with fail
        go_quiet (fail)
        go_wp2_with fail
        go_meet
        exact ⟨rfl, rfl, HG1.out.below (HBL.out _ _ _)⟩
      · go_wp2_with fail
        go_quiet (fail)
        go_wp2_with fail
        go_meet
        exact ⟨rfl, rfl, HG1.out.below (HBL.out _ _ _)⟩
      · go_wp2_with fail
        go_quiet (fail)
        go_wp2_with fail
        go_meet
        exact ⟨rfl, rfl, HG1.out.below (HBL.out _ _ _)⟩
    case rest =>
      obtain ⟨rfl, rfl, G3⟩ := hcut
      have hn1 : (offS was : Nat × Nat).1 ≤ 5 := offS_state _
      have hn2 : (offS was : Nat × Nat).2 ≤ 2 := offS_word _
      obtain ⟨nx, hnx⟩ : ∃ nx, nx = (offS was : Nat × Nat).1 := ⟨_, rfl⟩
      obtain ⟨sy, hsy⟩ : ∃ sy, sy = (offS was : Nat × Nat).2 := ⟨_, rfl⟩
      rw [← hnx] at hn1 ⊢
      rw [← hsy] at hn2 ⊢
      clear e0 e1 e2 r0 r1 r2 fr hls hls0 HG1 HBL hw5
      have HG3 := Lib.hid G3
      obtain ⟨e0, e1, e2, r0, r1, r2, fr⟩ := G3.cells
      have hset : setL L false o (offS (stL L false o)).1 = setL L false o nx := by rw [hnx, HWAS.out]
      have hsay : sayL false (offS (stL L false o)).2 o = sayL false sy o := by rw [hsy, HWAS.out]
      have HSET := Lib.hid hset
      have HSAY := Lib.hid hsay
      clear G3 hnx hsy hset hsay
      go_wp2_with fail
      refine (rset_any base _ ya za na yc nb zc L false o nx wc HG3.out.row (by rw [← HN.out]; omega) hn1).mono ?_
      rintro e w4 ⟨v4, rfl, R4, b4⟩
      obtain ⟨va, vc, rfl⟩ := R4.slice
      obtain ⟨m, hm⟩ : ∃ m, m = (setL L false o nx).length := ⟨_, rfl⟩
      rw [← hm] at R4 ⊢
      have HR4 := Lib.hid R4
      have HG4 := Lib.hid (HG3.out.below b4)
      have HM := Lib.hid hm
      have HWC := Lib.hid (HG3.out.lt)
      clear e0 e1 e2 r0 r1 r2 fr b4 R4 hm
      go_wp2_with fail
      refine (rword_any false o sy hn2 w4).mono ?_
      rintro e w5 ⟨u5, rfl, R5, b5⟩
      have HG5 := Lib.hid (HG4.out.below b5)
      have HR5 := Lib.hid (R5.mono (S' := fun k => s + 2 ≤ k) fun k hk => by have := HG4.out.lt; omega)
      have HR4 := Lib.hid (HR4.out.below b5)
      have hlo := HG5.out.lt
      obtain ⟨e0, e1, e2, r0, r1, r2, fr⟩ := HG5.out.cells
      have hfin : (put3 w5 (s + 1) (.slice va m vc) (.slice ya na yc) (.slice za nb zc)).heap[s + 1]? = some (.cells #[.slice va m vc, .slice ya na yc, .slice za nb zc] 46 (0, 0)) :=
        heap_set (heap_set (heap_set HG5.out.res 0 (.slice va m vc)) 1 (.slice ya na yc)) 2 (.slice za nb zc)
      have HRUN := Lib.hid (run_loadVar_row _ (s + 1) 46 46 #[.slice va m vc, .slice ya na yc, .slice za nb zc] (0, 0) _ hfin Try.underlying46 rfl size_ro)
      clear R5 b5 hfin
      go_wp2_with fail
      (try simp only [Exit.inBlock, Exit.then])
      refine bodyPost_ret (results_row_tmp rfl _ _ (s + 1) _ rfl HRUN.out) rfl ?_
      rw [HSET.out, HSAY.out]
      have hwc := HWC.out
      have := HBASE.out
      exact GotR.mk HS.out hlo HG5.out.old (HR4.out.base (by have := HS.out; omega)) (fun g hg => by have := own_first HR4.out g hg; omega) HR5.out
  · rw [show rgotR A B L (253 : Nat) o = (setL L true o (onS ((listOf true A B).any fun x => x == (o : Int)) (stL L true o)).1, sayL true (onS ((listOf true A B).any fun x => x == (o : Int)) (stL L true o)).2 o) from rfl]
    obtain ⟨e0, e1, e2, r0, r1, r2, fr⟩ := HG.out.cells
    have hlo := HG.out.lt
    obtain ⟨mm, hmm⟩ : ∃ mm, mm = ((listOf true A B).any fun x => x == (o : Int)) := ⟨_, rfl⟩
    rw [← hmm]
    have HMM := Lib.hid hmm
    clear hmm
    go_enter Try.func75, Try.ntmps75
    go_wp2_with fail
    rw [HW.out]
    refine (rstate_any base _ _ _ L true o W0 HG.out.row (by rw [← HN.out]; omega)).mono ?_
    rintro e w1 ⟨rfl, b1⟩
    have G1 := HG.out.below b1
    obtain ⟨was, hwas⟩ : ∃ was, was = stL L true o := ⟨_, rfl⟩
    have hw5 := HST.out true
    rw [← hwas] at hw5 ⊢
    have hls : s + 1 < w1.heap.size := by have := b1.size; have := HWSZ.out; omega
    have hls0 : s < w1.heap.size := by omega
    have HG1 := Lib.hid G1
    have HBL := Lib.hid (show ∀ (X Y : Obj) (k : Nat), Below w1.heap.size w1 (((w1.alloc X).alloc Y).drewN k) from fun X Y k => below_drewN ((below_alloc w1 X).trans ((below_alloc _ Y).mono (by simp))) k)
    have HWAS := Lib.hid hwas
    clear e0 e1 e2 r0 r1 r2 fr hlo b1 G1 hwas HG HW
    obtain ⟨e0, e1, e2, r0, r1, r2, fr⟩ := HG1.out.cells
    go_upto_if 36 with fail
    rw [← HS.out]
    go_cut [11, 12] (fun nx sy wx => nx = .int .i64 (onS mm was : Nat × Nat).1 ∧ sy = .int .i64 (onS mm was : Nat × Nat).2 ∧ GS base s w (.slice ya na yc) (.slice za nb zc) (.slice a n cap) L A B wx)
    case first =>
      have hcase : was = 0 ∨ was = 1 ∨ was = 2 ∨ was = 3 ∨ was = 4 ∨ was = 5 := by omega
      rcases hcase with rfl | rfl | rfl | rfl | rfl | rfl
      · go_wp2_with fail
        go_quiet (fail)
        go_wp2_with fail
        refine (may_any (.slice ya na yc) (.slice za nb zc) A B (.slice a n cap) true (o : Int) _ (HG1.out.below (HBL.out _ _ _)).ry (HG1.out.below (HBL.out _ _ _)).rz HAB.out.1 HAB.out.2).mono ?_
        rintro e w2 ⟨rfl, b2⟩
        rw [← HMM.out]
        have HG2 := Lib.hid ((HG1.out.below (HBL.out _ _ _)).below b2)
        clear b2
        cases mm
        · go_wp2_with fail
          go_meet
          exact ⟨rfl, rfl, HG2.out⟩
        · go_wp2_with fail
          go_meet
          exact ⟨rfl, rfl, HG2.out⟩
      · go_wp2_with fail
        go_quiet (fail)
        go_wp2_with fail
        go_meet
        exact ⟨rfl, rfl, HG1.out.below (HBL.out _ _ _)⟩
      · go_wp2_with fail
        go_quiet (fail)
        go_wp2_with fail
        go_meet
        exact ⟨rfl, rfl, HG1.out.below (HBL.out _ _ _)⟩
      · go_wp2_with fail
        go_quiet (fail)
        go_wp2_with fail
        go_meet
        exact ⟨rfl, rfl, HG1.out.below (HBL.out _ _ _)⟩
      · go_wp2_with fail
        go_quiet (fail)
        go_wp2_with fail
        go_meet
        exact ⟨rfl, rfl, HG1.out.below (HBL.out _ _ _)⟩
      · go_wp2_with fail
        go_quiet (fail)
        go_wp2_with fail
        go_meet
        exact ⟨rfl, rfl, HG1.out.below (HBL.out _ _ _)⟩
    case rest =>
      obtain ⟨rfl, rfl, G3⟩ := hcut
      have hn1 : (onS mm was : Nat × Nat).1 ≤ 5 := onS_state _ _ (by omega)
      have hn2 : (onS mm was : Nat × Nat).2 ≤ 2 := onS_word _ _
      obtain ⟨nx, hnx⟩ : ∃ nx, nx = (onS mm was : Nat × Nat).1 := ⟨_, rfl⟩
      obtain ⟨sy, hsy⟩ : ∃ sy, sy = (onS mm was : Nat × Nat).2 := ⟨_, rfl⟩
      rw [← hnx] at hn1 ⊢
      rw [← hsy] at hn2 ⊢
      clear e0 e1 e2 r0 r1 r2 fr hls hls0 HG1 HBL hw5
      have HG3 := Lib.hid G3
      obtain ⟨e0, e1, e2, r0, r1, r2, fr⟩ := G3.cells
      have hset : setL L true o (onS mm (stL L true o)).1 = setL L true o nx := by rw [hnx, HWAS.out]
      have hsay : sayL true (onS mm (stL L true o)).2 o = sayL true sy o := by rw [hsy, HWAS.out]
      have HSET := Lib.hid hset
      have HSAY := Lib.hid hsay
      clear G3 hnx hsy hset hsay
      go_wp2_with fail
      refine (rset_any base _ ya za na yc nb zc L true o nx wc HG3.out.row (by rw [← HN.out]; omega) hn1).mono ?_
      rintro e w4 ⟨v4, rfl, R4, b4⟩
      obtain ⟨va, vc, rfl⟩ := R4.slice
      obtain ⟨m, hm⟩ : ∃ m, m = (setL L true o nx).length := ⟨_, rfl⟩
      rw [← hm] at R4 ⊢
      have HR4 := Lib.hid R4
      have HG4 := Lib.hid (HG3.out.below b4)
      have HM := Lib.hid hm
      have HWC := Lib.hid (HG3.out.lt)
      clear e0 e1 e2 r0 r1 r2 fr b4 R4 hm
      go_wp2_with fail
      refine (rword_any true o sy hn2 w4).mono ?_
      rintro e w5 ⟨u5, rfl, R5, b5⟩
      have HG5 := Lib.hid (HG4.out.below b5)
      have HR5 := Lib.hid (R5.mono (S' := fun k => s + 2 ≤ k) fun k hk => by have := HG4.out.lt; omega)
      have HR4 := Lib.hid (HR4.out.below b5)
      have hlo := HG5.out.lt
      obtain ⟨e0, e1, e2, r0, r1, r2, fr⟩ := HG5.out.cells
      have hfin : (put3 w5 (s + 1) (.slice va m vc) (.slice ya na yc) (.slice za nb zc)).heap[s + 1]? = some (.cells #[.slice va m vc, .slice ya na yc, .slice za nb zc] 46 (0, 0)) :=
        heap_set (heap_set (heap_set HG5.out.res 0 (.slice va m vc)) 1 (.slice ya na yc)) 2 (.slice za nb zc)
      have HRUN := Lib.hid (run_loadVar_row _ (s + 1) 46 46 #[.slice va m vc, .slice ya na yc, .slice za nb zc] (0, 0) _ hfin Try.underlying46 rfl size_ro)
      clear R5 b5 hfin
      go_wp2_with fail
      (try simp only [Exit.inBlock, Exit.then])
      refine bodyPost_ret (results_row_tmp rfl _ _ (s + 1) _ rfl HRUN.out) rfl ?_
      rw [HSET.out, HSAY.out]
      have hwc := HWC.out
      have := HBASE.out
      exact GotR.mk HS.out hlo HG5.out.old (HR4.out.base (by have := HS.out; omega)) (fun g hg => by have := own_first HR4.out g hg; omega) HR5.out
  · rw [show rgotR A B L (254 : Nat) o = (setL L true o (offS (stL L true o)).1, sayL true (offS (stL L true o)).2 o) from rfl]
    obtain ⟨e0, e1, e2, r0, r1, r2, fr⟩ := HG.out.cells
    have hlo := HG.out.lt
    go_enter Try.func75, Try.ntmps75
    go_wp2_with fail
    rw [HW.out]
    refine (rstate_any base _ _ _ L true o W0 HG.out.row (by rw [← HN.out]; omega)).mono ?_
    rintro e w1 ⟨rfl, b1⟩
    have G1 := HG.out.below b1
    obtain ⟨was, hwas⟩ : ∃ was, was = stL L true o := ⟨_, rfl⟩
    have hw5 := HST.out true
    rw [← hwas] at hw5 ⊢
    have hls : s + 1 < w1.heap.size := by have := b1.size; have := HWSZ.out; omega
    have hls0 : s < w1.heap.size := by omega
    have HG1 := Lib.hid G1
    have HBL := Lib.hid (show ∀ (X Y : Obj) (k : Nat), Below w1.heap.size w1 (((w1.alloc X).alloc Y).drewN k) from fun X Y k => below_drewN ((below_alloc w1 X).trans ((below_alloc _ Y).mono (by simp))) k)
    have HWAS := Lib.hid hwas
    clear e0 e1 e2 r0 r1 r2 fr hlo b1 G1 hwas HG HW
    obtain ⟨e0, e1, e2, r0, r1, r2, fr⟩ := HG1.out.cells
    go_upto_if 36 with fail
    rw [← HS.out]
    go_cut [11, 12] (fun nx sy wx => nx = .int .i64 (offS was : Nat × Nat).1 ∧ sy = .int .i64 (offS was : Nat × Nat).2 ∧ GS base s w (.slice ya na yc) (.slice za nb zc) (.slice a n cap) L A B wx)
    case first =>
      have hcase : was = 0 ∨ was = 1 ∨ was = 2 ∨ was = 3 ∨ was = 4 ∨ was = 5 := by omega
      rcases hcase with rfl | rfl | rfl | rfl | rfl | rfl
      · go_wp2_with fail
        go_quiet (fail)
        go_wp2_with fail
        go_meet
        exact ⟨rfl, rfl, HG1.out.below (HBL.out _ _ _)⟩
      · go_wp2_with fail
        go_quiet (fail)
        go_wp2_with fail
        go_meet
        exact ⟨rfl, rfl, HG1.out.below (HBL.out _ _ _)⟩
      · go_wp2_with fail
        go_quiet (fail)
        go_wp2_with fail
        go_meet
        exact ⟨rfl, rfl, HG1.out.below (HBL.out _ _ _)⟩
      · go_wp2_with fail
        go_quiet (fail)
        go_wp2_with fail
        go_meet
        exact ⟨rfl, rfl, HG1.out.below (HBL.out _ _ _)⟩
      · go_wp2_with fail
        go_quiet (fail)
        go_wp2_with fail
        go_meet
        exact ⟨rfl, rfl, HG1.out.below (HBL.out _ _ _)⟩
      · go_wp2_with fail
        go_quiet (fail)
        go_wp2_with fail
        go_meet
        exact ⟨rfl, rfl, HG1.out.below (HBL.out _ _ _)⟩
    case rest =>
      obtain ⟨rfl, rfl, G3⟩ := hcut
      have hn1 : (offS was : Nat × Nat).1 ≤ 5 := offS_state _
      have hn2 : (offS was : Nat × Nat).2 ≤ 2 := offS_word _
      obtain ⟨nx, hnx⟩ : ∃ nx, nx = (offS was : Nat × Nat).1 := ⟨_, rfl⟩
      obtain ⟨sy, hsy⟩ : ∃ sy, sy = (offS was : Nat × Nat).2 := ⟨_, rfl⟩
      rw [← hnx] at hn1 ⊢
      rw [← hsy] at hn2 ⊢
      clear e0 e1 e2 r0 r1 r2 fr hls hls0 HG1 HBL hw5
      have HG3 := Lib.hid G3
      obtain ⟨e0, e1, e2, r0, r1, r2, fr⟩ := G3.cells
      have hset : setL L true o (offS (stL L true o)).1 = setL L true o nx := by rw [hnx, HWAS.out]
      have hsay : sayL true (offS (stL L true o)).2 o = sayL true sy o := by rw [hsy, HWAS.out]
      have HSET := Lib.hid hset
      have HSAY := Lib.hid hsay
      clear G3 hnx hsy hset hsay
      go_wp2_with fail
      refine (rset_any base _ ya za na yc nb zc L true o nx wc HG3.out.row (by rw [← HN.out]; omega) hn1).mono ?_
      rintro e w4 ⟨v4, rfl, R4, b4⟩
      obtain ⟨va, vc, rfl⟩ := R4.slice
      obtain ⟨m, hm⟩ : ∃ m, m = (setL L true o nx).length := ⟨_, rfl⟩
      rw [← hm] at R4 ⊢
      have HR4 := Lib.hid R4
      have HG4 := Lib.hid (HG3.out.below b4)
      have HM := Lib.hid hm
      have HWC := Lib.hid (HG3.out.lt)
      clear e0 e1 e2 r0 r1 r2 fr b4 R4 hm
      go_wp2_with fail
      refine (rword_any true o sy hn2 w4).mono ?_
      rintro e w5 ⟨u5, rfl, R5, b5⟩
      have HG5 := Lib.hid (HG4.out.below b5)
      have HR5 := Lib.hid (R5.mono (S' := fun k => s + 2 ≤ k) fun k hk => by have := HG4.out.lt; omega)
      have HR4 := Lib.hid (HR4.out.below b5)
      have hlo := HG5.out.lt
      obtain ⟨e0, e1, e2, r0, r1, r2, fr⟩ := HG5.out.cells
      have hfin : (put3 w5 (s + 1) (.slice va m vc) (.slice ya na yc) (.slice za nb zc)).heap[s + 1]? = some (.cells #[.slice va m vc, .slice ya na yc, .slice za nb zc] 46 (0, 0)) :=
        heap_set (heap_set (heap_set HG5.out.res 0 (.slice va m vc)) 1 (.slice ya na yc)) 2 (.slice za nb zc)
      have HRUN := Lib.hid (run_loadVar_row _ (s + 1) 46 46 #[.slice va m vc, .slice ya na yc, .slice za nb zc] (0, 0) _ hfin Try.underlying46 rfl size_ro)
      clear R5 b5 hfin
      go_wp2_with fail
      (try simp only [Exit.inBlock, Exit.then])
      refine bodyPost_ret (results_row_tmp rfl _ _ (s + 1) _ rfl HRUN.out) rfl ?_
      rw [HSET.out, HSAY.out]
      have hwc := HWC.out
      have := HBASE.out
      exact GotR.mk HS.out hlo HG5.out.old (HR4.out.base (by have := HS.out; omega)) (fun g hg => by have := own_first HR4.out g hg; omega) HR5.out
  · rw [show rgotR A B L (c : Int) o = (L, []) from by unfold rgotR; rw [if_neg (by omega), if_neg (by omega), if_neg (by omega), if_neg (by omega)]]
    have d1 : decide ((c : Int) < 251) = true := by simp; omega
    have hb : Below w.heap.size w ((w.alloc (.cells #[.slice a n cap, .slice ya na yc, .slice za nb zc] 46)).alloc (.cells #[.slice a n cap, .slice ya na yc, .slice za nb zc] 46)) := (below_alloc w _).trans ((below_alloc _ _).mono (by simp))
    have hfin := heap_alloc_new (w.alloc (.cells #[.slice a n cap, .slice ya na yc, .slice za nb zc] 46)) (.cells #[.slice a n cap, .slice ya na yc, .slice za nb zc] 46)
    rw [World.size_alloc] at hfin
    have HB := Lib.hid hb
    have HFIN := Lib.hid hfin
    clear hc h hb hfin
    go_enter Try.func75, Try.ntmps75
    go_wp2_with fail
    refine bodyPost_ret (results_row_tmp rfl _ _ (w.heap.size + 1) _ rfl (run_loadVar_row _ (w.heap.size + 1) 46 46 #[.slice a n cap, .slice ya na yc, .slice za nb zc] (0, 0) _ HFIN.out Try.underlying46 rfl size_ro)) rfl ?_
    exact ⟨_, _, rfl, HROW.out.below HB.out, RowIn.nil _ _ _, HB.out⟩
  · rw [show rgotR A B L (c : Int) o = (L, []) from by unfold rgotR; rw [if_neg (by omega), if_neg (by omega), if_neg (by omega), if_neg (by omega)]]
    have d1 : decide ((c : Int) < 251) = false := by simp; omega
    have d2 : ((c : Int) == 255) = true := by simp; omega
    have hb : Below w.heap.size w ((w.alloc (.cells #[.slice a n cap, .slice ya na yc, .slice za nb zc] 46)).alloc (.cells #[.slice a n cap, .slice ya na yc, .slice za nb zc] 46)) := (below_alloc w _).trans ((below_alloc _ _).mono (by simp))
    have hfin := heap_alloc_new (w.alloc (.cells #[.slice a n cap, .slice ya na yc, .slice za nb zc] 46)) (.cells #[.slice a n cap, .slice ya na yc, .slice za nb zc] 46)
    rw [World.size_alloc] at hfin
    have HB := Lib.hid hb
    have HFIN := Lib.hid hfin
    clear hc h hb hfin
    go_enter Try.func75, Try.ntmps75
    go_wp2_with fail
    refine bodyPost_ret (results_row_tmp rfl _ _ (w.heap.size + 1) _ rfl (run_loadVar_row _ (w.heap.size + 1) 46 46 #[.slice a n cap, .slice ya na yc, .slice za nb zc] (0, 0) _ HFIN.out Try.underlying46 rfl size_ro)) rfl ?_
    exact ⟨_, _, rfl, HROW.out.below HB.out, RowIn.nil _ _ _, HB.out⟩
end Go.Proofs.Ytimidoaafllnkaa.Opt
