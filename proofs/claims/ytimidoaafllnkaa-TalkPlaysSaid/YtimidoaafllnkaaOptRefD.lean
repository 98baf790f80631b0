/-
  The reference's options: contract of its Want.
-/
import Derived.Test.YtimidoaafllnkaaOptRefC
namespace Go.Proofs.Ytimidoaafllnkaa.Opt
open Go.RowKit Base
set_option linter.unusedVariables false

theorem results_row_tmp2 {fn : Func} {p u x : Tmp} {ty : TypeId} (h : fn.results = #[.cell p ty, .tmp u, .tmp x]) (tmps : Array Value) (w : World) (g : Nat) (cs : Array Value)
    (hp : tmps.getD p undef = .pointer (some ⟨g, 0, none⟩)) (hrun : (loadVar ty ⟨g, 0, none⟩).run Try.prog w = .ok (.agg cs) w) :
    (results fn tmps).run Try.prog w = .ok (.tuple #[.agg cs, tmps.getD u undef, tmps.getD x undef]) w := by
  have hp' : tmps[p]?.getD undef = .pointer (some ⟨g, 0, none⟩) := by simpa using hp
  simp only [results, h]
  simp [Result.andThen, hp', asAddr, hrun]
/-- What a call answers: options, bytes, an error's number. -/
def WantR (base : Nat) (y z : Value) (L' : List One) (X : List Int) (n : Nat) (w : World) (e : Ending) (w' : World) : Prop :=
  ∃ v' u, e = .returned (.tuple #[.agg #[v', y, z], u, .int .i64 n]) ∧ OneRow base w' v' L' ∧ RowIn (fun k => w.heap.size ≤ k) .u8 w' u X ∧ Below w.heap.size w w'
theorem WantR.mk {base s : Nat} {w wr : World} {y z v' u : Value} {L' : List One} {X : List Int} (n : Nat) (hs : s = w.heap.size) (hz : s + 2 ≤ wr.heap.size) (ho : Below s w wr) (hr : OneRow base wr v' L') (hne : ∀ g, v'.ownBlock = some g → g ≠ s + 1) (hu : RowIn (fun k => s + 2 ≤ k) .u8 wr u X) :
    WantR base y z L' X n w (.returned (.tuple #[.agg #[v', y, z], u, .int .i64 n])) (put3 wr (s + 1) v' y z) := by
  obtain ⟨v2, u2, he, h1, h2, h3⟩ := GotR.mk (y := y) (z := z) (u := u) hs hz ho hr hne hu
  cases he
  exact ⟨_, _, rfl, h1, h2, h3⟩
/-- What the reference's Want answers. -/
def wantO (L : List One) (ours : Bool) (o : Nat) (p : Nat × Nat × Nat) : List One × List Int × Nat := if p.2.2 = 5 then (L, [], 5) else (setL L ours o p.1, sayL ours p.2.1 o, 0)
def rwantR (L : List One) (c : Int) (o : Nat) : List One × List Int × Nat :=
  if c = 251 then wantO L true o (wantOnS (stL L true o))
  else if c = 252 then wantO L true o (wantOffS (stL L true o))
  else if c = 253 then wantO L false o (wantOnS (stL L false o))
  else if c = 254 then wantO L false o (wantOffS (stL L false o))
  else (L, [], 1)
theorem WantR.below {base n : Nat} {y z : Value} {L' : List One} {X : List Int} {w W W' : World} {e : Ending} (h : WantR base y z L' X n w e W) (t : Below W.heap.size W W') : WantR base y z L' X n w e W' := by
  obtain ⟨v', u, he, h1, h2, h3⟩ := h
  exact ⟨v', u, he, h1.below t, h2.below t, h3.trans (t.mono h3.size)⟩
theorem run_put3 (W : World) (g : Nat) (x y z a b c : Value) (h : W.heap[g]? = some (.cells #[a, b, c] 46 (0, 0))) : (loadVar 46 ⟨g, 0, none⟩).run Try.prog (put3 W g x y z) = .ok (.agg #[x, y, z]) (put3 W g x y z) :=
  run_loadVar_row _ g 46 46 #[x, y, z] (0, 0) _ (heap_set (heap_set (heap_set h 0 x) 1 y) 2 z) Try.underlying46 rfl size_ro
theorem rset_lit (base : Nat) (v : Value) (ya za : Option Addr) (yn yc zn zc : Nat) (L : List One) (ours : Bool) (o st : Nat) (x : Int) (hx : x = st) (w : World) (h : OneRow base w v L) (hl : L.length ≤ 200) (hst : st ≤ 5) :
    Calls Try.prog 77 #[.agg #[v, .slice ya yn yc, .slice za zn zc], .bool ours, .int .u8 o, .int .i64 x] w fun e w' => ∃ v', e = .returned (.agg #[v', .slice ya yn yc, .slice za zn zc]) ∧ OneRow w.heap.size w' v' (setL L ours o st) ∧ Below w.heap.size w w' := by
  subst hx
  exact rset_any base v ya za yn yc zn zc L ours o st w h hl hst
theorem rword_lit (ours : Bool) (o word : Nat) (x : Int) (hx : x = word) (hw : word ≤ 2) (w : World) : Calls Try.prog 78 #[.bool ours, .int .u8 o, .int .i64 x] w (Tells (sayL ours word o) w) := by
  subst hx
  exact rword_any ours o word hw w
/-- What region 12 reads: the argument, a cell of a table. -/
structure BS (s tb k : Nat) (v y z x : Value) (W : World) : Prop where
  c0 : W.cell? ⟨s, 0, none⟩ = some v
  c1 : W.cell? ⟨s, 1, none⟩ = some y
  c2 : W.cell? ⟨s, 2, none⟩ = some z
  t : W.cell? ⟨tb, k, none⟩ = some x
section
variable {s tb k : Nat} {v y z x : Value} {W W' : World}
theorem BS.all (h : BS s tb k v y z x W) : W.cell? ⟨s, 0, none⟩ = some v ∧ W.cell? ⟨s, 1, none⟩ = some y ∧ W.cell? ⟨s, 2, none⟩ = some z ∧ W.cell? ⟨tb, k, none⟩ = some x := ⟨h.c0, h.c1, h.c2, h.t⟩
theorem BS.of (h : W.cell? ⟨s, 0, none⟩ = some v ∧ W.cell? ⟨s, 1, none⟩ = some y ∧ W.cell? ⟨s, 2, none⟩ = some z ∧ W.cell? ⟨tb, k, none⟩ = some x) : BS s tb k v y z x W := ⟨h.1, h.2.1, h.2.2.1, h.2.2.2⟩
theorem BS.below (h : BS s tb k v y z x W) (u : Below W.heap.size W W') : BS s tb k v y z x W' :=
  ⟨(u.cell (p := ⟨s, 0, none⟩) (World.block_lt_of_cell? _ _ h.c0)).trans h.c0, (u.cell (p := ⟨s, 1, none⟩) (World.block_lt_of_cell? _ _ h.c1)).trans h.c1, (u.cell (p := ⟨s, 2, none⟩) (World.block_lt_of_cell? _ _ h.c2)).trans h.c2, (u.cell (p := ⟨tb, k, none⟩) (World.block_lt_of_cell? _ _ h.t)).trans h.t⟩
theorem BS.drew (h : BS s tb k v y z x W) : BS s tb k v y z x W.drew := ⟨h.c0, h.c1, h.c2, h.t⟩
theorem BS.put (h : BS s tb k v y z x W) (a b c : Value) (htb : tb ≠ s + 1) : BS s tb k v y z x (((W.setCell ⟨s + 1, 0, none⟩ a).setCell ⟨s + 1, 1, none⟩ b).setCell ⟨s + 1, 2, none⟩ c) :=
  ⟨(cell_block (put3_block W (s + 1) a b c s (by omega)) 0).trans h.c0, (cell_block (put3_block W (s + 1) a b c s (by omega)) 1).trans h.c1, (cell_block (put3_block W (s + 1) a b c s (by omega)) 2).trans h.c2, (cell_block (put3_block W (s + 1) a b c tb htb) k).trans h.t⟩
end
theorem GS.drew {base s : Nat} {w : World} {y z v : Value} {L : List One} {A B : List Int} {wr : World} (h : GS base s w y z v L A B wr) : GS base s w y z v L A B wr.drew := h.below (Below.drew (Below.refl _ wr))
set_option maxRecDepth 100000 in
set_option maxHeartbeats 8000000 in
theorem rwant_any (base : Nat) (v : Value) (ya za : Option Addr) (yc zc : Nat) (L : List One) (A B : List Int) (c o : Nat) (w : World) (h : OneRow base w v L) (hl : L.length ≤ 200) (hst : ∀ ours, stL L ours o ≤ 5) (hc : c < 256)
    (hy : RowOf .u8 w (.slice ya A.length yc) A) (hz : RowOf .u8 w (.slice za B.length zc) B) (hA : A.length ≤ maxLen) (hB : B.length ≤ maxLen) (hbase : base ≤ w.heap.size) :
    Calls Try.prog 31 #[.agg #[v, .slice ya A.length yc, .slice za B.length zc], .int .u8 c, .int .u8 o] w (WantR base (.slice ya A.length yc) (.slice za B.length zc) (rwantR L c o).1 (rwantR L c o).2.1 (rwantR L c o).2.2 w) := by
  have hzero := (zero_of_info info_ro).1
  obtain ⟨a, cap, rfl, _⟩ := h.read
  obtain ⟨n, hn⟩ : ∃ n, n = L.length := ⟨_, rfl⟩
  obtain ⟨na, hna⟩ : ∃ n, n = A.length := ⟨_, rfl⟩
  obtain ⟨nb, hnb⟩ : ∃ n, n = B.length := ⟨_, rfl⟩
  rw [← hn] at h hl ⊢
  rw [← hna] at hy ⊢
  rw [← hnb] at hz ⊢
  obtain ⟨s, hs⟩ : ∃ s, s = w.heap.size := ⟨_, rfl⟩
  obtain ⟨W0, hW⟩ : ∃ W0, W0 = (w.alloc (.cells #[.slice a n cap, .slice ya na yc, .slice za nb zc] 46)).alloc (.cells #[.slice none 0 0, .slice none 0 0, .slice none 0 0] 46) := ⟨_, rfl⟩
  have G0 := gs_new hs hW h hy hz
  have hown := h.own_lt
  have HW := Lib.hid hW.symm
  have HS := Lib.hid hs
  have HG := Lib.hid G0
  have HST := Lib.hid hst
  have HOWN := Lib.hid hown
  have HN := Lib.hid hn
  have HAB := Lib.hid (And.intro hA hB)
  have hWsz : W0.heap.size = s + 2 := by rw [hW, World.size_alloc, World.size_alloc, hs]
  have HWSZ := Lib.hid hWsz
  have HROW := Lib.hid h
  have HBASE := Lib.hid hbase
  clear hn hna hnb hW hs G0 h hst hA hB hy hz hown hWsz
  have hcase : c = 251 ∨ c = 252 ∨ c = 253 ∨ c = 254 ∨ c < 251 ∨ c = 255 := by omega
  rcases hcase with rfl | rfl | rfl | rfl | h | h
  · rw [show rwantR L (251 : Nat) o = wantO L true o (wantOnS (stL L true o)) from rfl]
    obtain ⟨e0, e1, e2, r0, r1, r2, fr⟩ := HG.out.cells
    have hlo := HG.out.lt
    go_enter Try.func31, Try.ntmps31
    go_wp2_with fail
    rw [HW.out]
    refine (rstate_any base _ _ _ L true o W0 HG.out.row (by rw [← HN.out]; omega)).mono ?_
    rintro e w1 ⟨rfl, b1⟩
    have G1 := HG.out.below b1
    obtain ⟨was, hwas⟩ : ∃ was, was = stL L true o := ⟨_, rfl⟩
    have hw5 := HST.out true
    rw [← hwas] at hw5 ⊢
    have hls : s + 1 < w1.heap.size := by have := b1.size; have := HWSZ.out; omega
    have hls0 : s < w1.heap.size := by omega
    have hls1 : s < w1.heap.size + 1 := by omega
    have hls2 : s < w1.heap.size + 1 + 1 := by omega
    have hls3 : s < w1.heap.size + 1 + 1 + 1 := by omega
    have hls4 : s + 1 < w1.heap.size + 1 := by omega
    have hls5 : s + 1 < w1.heap.size + 1 + 1 := by omega
    have hls6 : s + 1 < w1.heap.size + 1 + 1 + 1 := by omega
    have HWAS := Lib.hid hwas
    have hb2 : Below w1.heap.size w1 ((w1.alloc (.cells #[.int .i64 3, .int .i64 (-1), .int .i64 4, .int .i64 (-1), .int .i64 (-1), .int .i64 3] 3)).alloc (.cells #[.int .i64 1, .int .i64 0, .int .i64 0, .int .i64 0, .int .i64 0, .int .i64 0] 3)) := (below_alloc w1 _).trans ((below_alloc _ _).mono (by simp))
    obtain ⟨W2, hW2⟩ : ∃ W2, W2 = ((w1.alloc (.cells #[.int .i64 3, .int .i64 (-1), .int .i64 4, .int .i64 (-1), .int .i64 (-1), .int .i64 3] 3)).alloc (.cells #[.int .i64 1, .int .i64 0, .int .i64 0, .int .i64 0, .int .i64 0, .int .i64 0] 3)) := ⟨_, rfl⟩
    rw [← hW2] at hb2
    have G2 := G1.below hb2
    have HG2 := Lib.hid G2
    have HW2 := Lib.hid hW2
    clear e0 e1 e2 r0 r1 r2 fr hlo b1 hwas HG HW
    obtain ⟨e0, e1, e2, r0, r1, r2, fr⟩ := G1.cells
    have HG1 := Lib.hid G1
    clear G1 G2 hb2 hW2
    have hcase : was = 0 ∨ was = 1 ∨ was = 2 ∨ was = 3 ∨ was = 4 ∨ was = 5 := by omega
    rw [← HS.out]
    rcases hcase with rfl | rfl | rfl | rfl | rfl | rfl
    · go_wp2_with fail
      rw [← HW2.out]
      have bs : BS s w1.heap.size 0 (.slice a n cap) (.slice ya na yc) (.slice za nb zc) (.int .i64 3) W2 := by
        obtain ⟨g0, g1, g2, _⟩ := HG2.out.cells
        exact ⟨g0, g1, g2, by rw [HW2.out]; simp [go_sem]⟩
      have htb : w1.heap.size ≠ s + 1 := by omega
      have HBS := Lib.hid bs
      have HTB := Lib.hid htb
      clear bs htb e0 e1 e2 r0 r1 r2 fr
      first
      | (go_region_held3 (fun W => W.cell? ⟨s, 0, none⟩ = some (.slice a n cap) ∧ W.cell? ⟨s, 1, none⟩ = some (.slice ya na yc) ∧ W.cell? ⟨s, 2, none⟩ = some (.slice za nb zc) ∧ W.cell? ⟨w1.heap.size, 0, none⟩ = some (.int .i64 3))
        (with_reducible (first | assumption | exact BS.all HBS.out.drew | exact BS.all (BS.below (BS.of (by assumption)) (by assumption)) | exact BS.all (BS.put (BS.of (by assumption)) _ _ _ HTB.out)))
        (first
        | (go_at_call 77; (with_reducible refine (rset_lit base _ ya za na yc nb zc L true o 3 (3 : Int) rfl W2.drew HG2.out.drew.row (by rw [← HN.out]; omega) (by omega)).mono ?_); rintro e w4 ⟨v4, rfl, R4, b4⟩; obtain ⟨va, vc, rfl⟩ := R4.slice; have G4 := HG2.out.drew.below b4)
        | (go_at_call 78; (with_reducible refine (rword_lit true o 1 (1 : Int) rfl (by omega) w4).mono ?_); rintro e w5 ⟨u5, rfl, R5, b5⟩; have G5 := G4.below b5; obtain ⟨g0, g1, g2, r0, r1, r2, fr⟩ := G5.cells)))
      | fail
      all_goals
        go_wp2_with fail
        (try simp only [Exit.inBlock, Exit.then])
        refine bodyPost_ret (results_row_tmp2 rfl _ _ (s + 1) _ rfl (run_put3 w5 (s + 1) _ _ _ _ _ _ G5.res)) rfl ?_
        rw [← HWAS.out]
        have h1 := HG2.out.drew.lt
        have h2 := G4.lt
        have h3 := HS.out
        have h4 := HBASE.out
        exact WantR.mk 0 HS.out G5.lt G5.old ((R4.below b5).base (by omega)) (fun g hg => by have := own_first R4 g hg; omega) (R5.mono fun k hk => by omega)
    · have hbp : Below (put3 w1 (s + 1) (.slice a n cap) (.slice ya na yc) (.slice za nb zc)).heap.size (put3 w1 (s + 1) (.slice a n cap) (.slice ya na yc) (.slice za nb zc)) (((put3 w1 (s + 1) (.slice a n cap) (.slice ya na yc) (.slice za nb zc)).alloc (.cells #[.int .i64 3, .int .i64 (-1), .int .i64 4, .int .i64 (-1), .int .i64 (-1), .int .i64 3] 3)).alloc (.cells #[.int .i64 1, .int .i64 0, .int .i64 0, .int .i64 0, .int .i64 0, .int .i64 0] 3)) := (below_alloc (put3 w1 (s + 1) (.slice a n cap) (.slice ya na yc) (.slice za nb zc)) _).trans ((below_alloc _ _).mono (by simp))
      have hres : (((put3 w1 (s + 1) (.slice a n cap) (.slice ya na yc) (.slice za nb zc)).alloc (.cells #[.int .i64 3, .int .i64 (-1), .int .i64 4, .int .i64 (-1), .int .i64 (-1), .int .i64 3] 3)).alloc (.cells #[.int .i64 1, .int .i64 0, .int .i64 0, .int .i64 0, .int .i64 0, .int .i64 0] 3)).heap[s + 1]? = some (.cells #[.slice a n cap, .slice ya na yc, .slice za nb zc] 46 (0, 0)) := by
        have h0 := heap_set (heap_set (heap_set HG1.out.res 0 (.slice a n cap)) 1 (.slice ya na yc)) 2 (.slice za nb zc)
        exact (hbp.block (s + 1) (lt_of_block h0)).trans h0
      have HBP := Lib.hid hbp
      have HRES := Lib.hid hres
      clear hbp hres
      go_wp2_with fail
      (try simp only [Exit.inBlock, Exit.then])
      refine bodyPost_ret (results_row_tmp2 rfl _ _ (s + 1) _ rfl (run_loadVar_row _ (s + 1) 46 46 #[.slice a n cap, .slice ya na yc, .slice za nb zc] (0, 0) _ HRES.out Try.underlying46 rfl size_ro)) rfl ?_
      rw [← HWAS.out]
      exact (WantR.mk 5 HS.out HG1.out.lt HG1.out.old HG1.out.row (fun g hg => by have := HOWN.out g hg; have := HS.out; omega) (RowIn.nil _ _ _)).below HBP.out
    · go_wp2_with fail
      rw [← HW2.out]
      have bs : BS s w1.heap.size 2 (.slice a n cap) (.slice ya na yc) (.slice za nb zc) (.int .i64 4) W2 := by
        obtain ⟨g0, g1, g2, _⟩ := HG2.out.cells
        exact ⟨g0, g1, g2, by rw [HW2.out]; simp [go_sem]⟩
      have htb : w1.heap.size ≠ s + 1 := by omega
      have HBS := Lib.hid bs
      have HTB := Lib.hid htb
      clear bs htb e0 e1 e2 r0 r1 r2 fr
      first
      | (go_region_held3 (fun W => W.cell? ⟨s, 0, none⟩ = some (.slice a n cap) ∧ W.cell? ⟨s, 1, none⟩ = some (.slice ya na yc) ∧ W.cell? ⟨s, 2, none⟩ = some (.slice za nb zc) ∧ W.cell? ⟨w1.heap.size, 2, none⟩ = some (.int .i64 4))
        (with_reducible (first | assumption | exact BS.all HBS.out.drew | exact BS.all (BS.below (BS.of (by assumption)) (by assumption)) | exact BS.all (BS.put (BS.of (by assumption)) _ _ _ HTB.out)))
        (first
        | (go_at_call 77; (with_reducible refine (rset_lit base _ ya za na yc nb zc L true o 4 (4 : Int) rfl W2.drew HG2.out.drew.row (by rw [← HN.out]; omega) (by omega)).mono ?_); rintro e w4 ⟨v4, rfl, R4, b4⟩; obtain ⟨va, vc, rfl⟩ := R4.slice; have G4 := HG2.out.drew.below b4)
        | (go_at_call 78; (with_reducible refine (rword_lit true o 0 (0 : Int) rfl (by omega) w4).mono ?_); rintro e w5 ⟨u5, rfl, R5, b5⟩; have G5 := G4.below b5; obtain ⟨g0, g1, g2, r0, r1, r2, fr⟩ := G5.cells)))
      | fail
      all_goals
        go_wp2_with fail
        (try simp only [Exit.inBlock, Exit.then])
        refine bodyPost_ret (results_row_tmp2 rfl _ _ (s + 1) _ rfl (run_put3 w5 (s + 1) _ _ _ _ _ _ G5.res)) rfl ?_
        rw [← HWAS.out]
        have h1 := HG2.out.drew.lt
        have h2 := G4.lt
        have h3 := HS.out
        have h4 := HBASE.out
        exact WantR.mk 0 HS.out G5.lt G5.old ((R4.below b5).base (by omega)) (fun g hg => by have := own_first R4 g hg; omega) (R5.mono fun k hk => by omega)
    · have hbp : Below (put3 w1 (s + 1) (.slice a n cap) (.slice ya na yc) (.slice za nb zc)).heap.size (put3 w1 (s + 1) (.slice a n cap) (.slice ya na yc) (.slice za nb zc)) (((put3 w1 (s + 1) (.slice a n cap) (.slice ya na yc) (.slice za nb zc)).alloc (.cells #[.int .i64 3, .int .i64 (-1), .int .i64 4, .int .i64 (-1), .int .i64 (-1), .int .i64 3] 3)).alloc (.cells #[.int .i64 1, .int .i64 0, .int .i64 0, .int .i64 0, .int .i64 0, .int .i64 0] 3)) := (below_alloc (put3 w1 (s + 1) (.slice a n cap) (.slice ya na yc) (.slice za nb zc)) _).trans ((below_alloc _ _).mono (by simp))
      have hres : (((put3 w1 (s + 1) (.slice a n cap) (.slice ya na yc) (.slice za nb zc)).alloc (.cells #[.int .i64 3, .int .i64 (-1), .int .i64 4, .int .i64 (-1), .int .i64 (-1), .int .i64 3] 3)).alloc (.cells #[.int .i64 1, .int .i64 0, .int .i64 0, .int .i64 0, .int .i64 0, .int .i64 0] 3)).heap[s + 1]? = some (.cells #[.slice a n cap, .slice ya na yc, .slice za nb zc] 46 (0, 0)) := by
        have h0 := heap_set (heap_set (heap_set HG1.out.res 0 (.slice a n cap)) 1 (.slice ya na yc)) 2 (.slice za nb zc)
        exact (hbp.block (s + 1) (lt_of_block h0)).trans h0
      have HBP := Lib.hid hbp
      have HRES := Lib.hid hres
      clear hbp hres
      go_wp2_with fail
      (try simp only [Exit.inBlock, Exit.then])
      refine bodyPost_ret (results_row_tmp2 rfl _ _ (s + 1) _ rfl (run_loadVar_row _ (s + 1) 46 46 #[.slice a n cap, .slice ya na yc, .slice za nb zc] (0, 0) _ HRES.out Try.underlying46 rfl size_ro)) rfl ?_
      rw [← HWAS.out]
      exact (WantR.mk 5 HS.out HG1.out.lt HG1.out.old HG1.out.row (fun g hg => by have := HOWN.out g hg; have := HS.out; omega) (RowIn.nil _ _ _)).below HBP.out
    · have hbp : Below (put3 w1 (s + 1) (.slice a n cap) (.slice ya na yc) (.slice za nb zc)).heap.size (put3 w1 (s + 1) (.slice a n cap) (.slice ya na yc) (.slice za nb zc)) (((put3 w1 (s + 1) (.slice a n cap) (.slice ya na yc) (.slice za nb zc)).alloc (.cells #[.int .i64 3, .int .i64 (-1), .int .i64 4, .int .i64 (-1), .int .i64 (-1), .int .i64 3] 3)).alloc (.cells #[.int .i64 1, .int .i64 0, .int .i64 0, .int .i64 0, .int .i64 0, .int .i64 0] 3)) := (below_alloc (put3 w1 (s + 1) (.slice a n cap) (.slice ya na yc) (.slice za nb zc)) _).trans ((below_alloc _ _).mono (by simp))
      have hres : (((put3 w1 (s + 1) (.slice a n cap) (.slice ya na yc) (.slice za nb zc)).alloc (.cells #[.int .i64 3, .int .i64 (-1), .int .i64 4, .int .i64 (-1), .int .i64 (-1), .int .i64 3] 3)).alloc (.cells #[.int .i64 1, .int .i64 0, .int .i64 0, .int .i64 0, .int .i64 0, .int .i64 0] 3)).heap[s + 1]? = some (.cells #[.slice a n cap, .slice ya na yc, .slice za nb zc] 46 (0, 0)) := by
        have h0 := heap_set (heap_set (heap_set HG1.out.res 0 (.slice a n cap)) 1 (.slice ya na yc)) 2 (.slice za nb zc)
        exact (hbp.block (s + 1) (lt_of_block h0)).trans h0
      have HBP := Lib.hid hbp
      have HRES := Lib.hid hres
      clear hbp hres
      go_wp2_with fail
      (try simp only [Exit.inBlock, Exit.then])
      refine bodyPost_ret (results_row_tmp2 rfl _ _ (s + 1) _ rfl (run_loadVar_row _ (s + 1) 46 46 #[.slice a n cap, .slice ya na yc, .slice za nb zc] (0, 0) _ HRES.out Try.underlying46 rfl size_ro)) rfl ?_
      rw [← HWAS.out]
      exact (WantR.mk 5 HS.out HG1.out.lt HG1.out.old HG1.out.row (fun g hg => by have := HOWN.out g hg; have := HS.out; omega) (RowIn.nil _ _ _)).below HBP.out
    · go_wp2_with fail
      rw [← HW2.out]
      have bs : BS s w1.heap.size 5 (.slice a n cap) (.slice ya na yc) (.slice za nb zc) (.int .i64 3) W2 := by
        obtain ⟨g0, g1, g2, _⟩ := HG2.out.cells
        exact ⟨g0, g1, g2, by rw [HW2.out]; simp [go_sem]⟩
      have htb : w1.heap.size ≠ s + 1 := by omega
      have HBS := Lib.hid bs
      have HTB := Lib.hid htb
      clear bs htb e0 e1 e2 r0 r1 r2 fr
      first
      | (go_region_held3 (fun W => W.cell? ⟨s, 0, none⟩ = some (.slice a n cap) ∧ W.cell? ⟨s, 1, none⟩ = some (.slice ya na yc) ∧ W.cell? ⟨s, 2, none⟩ = some (.slice za nb zc) ∧ W.cell? ⟨w1.heap.size, 5, none⟩ = some (.int .i64 3))
        (with_reducible (first | assumption | exact BS.all HBS.out.drew | exact BS.all (BS.below (BS.of (by assumption)) (by assumption)) | exact BS.all (BS.put (BS.of (by assumption)) _ _ _ HTB.out)))
        (first
        | (go_at_call 77; (with_reducible refine (rset_lit base _ ya za na yc nb zc L true o 3 (3 : Int) rfl W2.drew HG2.out.drew.row (by rw [← HN.out]; omega) (by omega)).mono ?_); rintro e w4 ⟨v4, rfl, R4, b4⟩; obtain ⟨va, vc, rfl⟩ := R4.slice; have G4 := HG2.out.drew.below b4)
        | (go_at_call 78; (with_reducible refine (rword_lit true o 0 (0 : Int) rfl (by omega) w4).mono ?_); rintro e w5 ⟨u5, rfl, R5, b5⟩; have G5 := G4.below b5; obtain ⟨g0, g1, g2, r0, r1, r2, fr⟩ := G5.cells)))
      | fail
      all_goals
        go_wp2_with fail
        (try simp only [Exit.inBlock, Exit.then])
        refine bodyPost_ret (results_row_tmp2 rfl _ _ (s + 1) _ rfl (run_put3 w5 (s + 1) _ _ _ _ _ _ G5.res)) rfl ?_
        rw [← HWAS.out]
        have h1 := HG2.out.drew.lt
        have h2 := G4.lt
        have h3 := HS.out
        have h4 := HBASE.out
        exact WantR.mk 0 HS.out G5.lt G5.old ((R4.below b5).base (by omega)) (fun g hg => by have := own_first R4 g hg; omega) (R5.mono fun k hk => by omega)
  · rw [show rwantR L (252 : Nat) o = wantO L true o (wantOffS (stL L true o)) from rfl]
    obtain ⟨e0, e1, e2, r0, r1, r2, fr⟩ := HG.out.cells
    have hlo := HG.out.lt
    go_enter Try.func31, Try.ntmps31
    go_wp2_with fail
    rw [HW.out]
    refine (rstate_any base _ _ _ L true o W0 HG.out.row (by rw [← HN.out]; omega)).mono ?_
    rintro e w1 ⟨rfl, b1⟩
    have G1 := HG.out.below b1
    obtain ⟨was, hwas⟩ : ∃ was, was = stL L true o := ⟨_, rfl⟩
    have hw5 := HST.out true
    rw [← hwas] at hw5 ⊢
    have hls : s + 1 < w1.heap.size := by have := b1.size; have := HWSZ.out; omega
    have hls0 : s < w1.heap.size := by omega
    have hls1 : s < w1.heap.size + 1 := by omega
    have hls2 : s < w1.heap.size + 1 + 1 := by omega
    have hls3 : s < w1.heap.size + 1 + 1 + 1 := by omega
    have hls4 : s + 1 < w1.heap.size + 1 := by omega
    have hls5 : s + 1 < w1.heap.size + 1 + 1 := by omega
    have hls6 : s + 1 < w1.heap.size + 1 + 1 + 1 := by omega
    have HWAS := Lib.hid hwas
    have hb2 : Below w1.heap.size w1 ((((w1.alloc (.cells #[.int .i64 3, .int .i64 (-1), .int .i64 4, .int .i64 (-1), .int .i64 (-1), .int .i64 3] 3)).alloc (.cells #[.int .i64 1, .int .i64 0, .int .i64 0, .int .i64 0, .int .i64 0, .int .i64 0] 3)).alloc (.cells #[.int .i64 (-1), .int .i64 2, .int .i64 (-1), .int .i64 5, .int .i64 2, .int .i64 (-1)] 3)).alloc (.cells #[.int .i64 0, .int .i64 2, .int .i64 0, .int .i64 0, .int .i64 0, .int .i64 0] 3)) := (((below_alloc w1 _).trans ((below_alloc _ _).mono (by simp))).trans ((below_alloc _ _).mono (by simp; omega))).trans ((below_alloc _ _).mono (by simp; omega))
    obtain ⟨W2, hW2⟩ : ∃ W2, W2 = ((((w1.alloc (.cells #[.int .i64 3, .int .i64 (-1), .int .i64 4, .int .i64 (-1), .int .i64 (-1), .int .i64 3] 3)).alloc (.cells #[.int .i64 1, .int .i64 0, .int .i64 0, .int .i64 0, .int .i64 0, .int .i64 0] 3)).alloc (.cells #[.int .i64 (-1), .int .i64 2, .int .i64 (-1), .int .i64 5, .int .i64 2, .int .i64 (-1)] 3)).alloc (.cells #[.int .i64 0, .int .i64 2, .int .i64 0, .int .i64 0, .int .i64 0, .int .i64 0] 3)) := ⟨_, rfl⟩
    rw [← hW2] at hb2
    have G2 := G1.below hb2
    have HG2 := Lib.hid G2
    have HW2 := Lib.hid hW2
    clear e0 e1 e2 r0 r1 r2 fr hlo b1 hwas HG HW
    obtain ⟨e0, e1, e2, r0, r1, r2, fr⟩ := G1.cells
    have HG1 := Lib.hid G1
    clear G1 G2 hb2 hW2
    have hcase : was = 0 ∨ was = 1 ∨ was = 2 ∨ was = 3 ∨ was = 4 ∨ was = 5 := by omega
    rw [← HS.out]
    rcases hcase with rfl | rfl | rfl | rfl | rfl | rfl
    · have hbp : Below (put3 w1 (s + 1) (.slice a n cap) (.slice ya na yc) (.slice za nb zc)).heap.size (put3 w1 (s + 1) (.slice a n cap) (.slice ya na yc) (.slice za nb zc)) (((((put3 w1 (s + 1) (.slice a n cap) (.slice ya na yc) (.slice za nb zc)).alloc (.cells #[.int .i64 3, .int .i64 (-1), .int .i64 4, .int .i64 (-1), .int .i64 (-1), .int .i64 3] 3)).alloc (.cells #[.int .i64 1, .int .i64 0, .int .i64 0, .int .i64 0, .int .i64 0, .int .i64 0] 3)).alloc (.cells #[.int .i64 (-1), .int .i64 2, .int .i64 (-1), .int .i64 5, .int .i64 2, .int .i64 (-1)] 3)).alloc (.cells #[.int .i64 0, .int .i64 2, .int .i64 0, .int .i64 0, .int .i64 0, .int .i64 0] 3)) := (((below_alloc (put3 w1 (s + 1) (.slice a n cap) (.slice ya na yc) (.slice za nb zc)) _).trans ((below_alloc _ _).mono (by simp))).trans ((below_alloc _ _).mono (by simp; omega))).trans ((below_alloc _ _).mono (by simp; omega))
      have hres : (((((put3 w1 (s + 1) (.slice a n cap) (.slice ya na yc) (.slice za nb zc)).alloc (.cells #[.int .i64 3, .int .i64 (-1), .int .i64 4, .int .i64 (-1), .int .i64 (-1), .int .i64 3] 3)).alloc (.cells #[.int .i64 1, .int .i64 0, .int .i64 0, .int .i64 0, .int .i64 0, .int .i64 0] 3)).alloc (.cells #[.int .i64 (-1), .int .i64 2, .int .i64 (-1), .int .i64 5, .int .i64 2, .int .i64 (-1)] 3)).alloc (.cells #[.int .i64 0, .int .i64 2, .int .i64 0, .int .i64 0, .int .i64 0, .int .i64 0] 3)).heap[s + 1]? = some (.cells #[.slice a n cap, .slice ya na yc, .slice za nb zc] 46 (0, 0)) := by
        have h0 := heap_set (heap_set (heap_set HG1.out.res 0 (.slice a n cap)) 1 (.slice ya na yc)) 2 (.slice za nb zc)
        exact (hbp.block (s + 1) (lt_of_block h0)).trans h0
      have HBP := Lib.hid hbp
      have HRES := Lib.hid hres
      clear hbp hres
      go_wp2_with fail
      (try simp only [Exit.inBlock, Exit.then])
      refine bodyPost_ret (results_row_tmp2 rfl _ _ (s + 1) _ rfl (run_loadVar_row _ (s + 1) 46 46 #[.slice a n cap, .slice ya na yc, .slice za nb zc] (0, 0) _ HRES.out Try.underlying46 rfl size_ro)) rfl ?_
      rw [← HWAS.out]
      exact (WantR.mk 5 HS.out HG1.out.lt HG1.out.old HG1.out.row (fun g hg => by have := HOWN.out g hg; have := HS.out; omega) (RowIn.nil _ _ _)).below HBP.out
    · go_wp2_with fail
      rw [← HW2.out]
      have bs : BS s (w1.heap.size + 1 + 1) 1 (.slice a n cap) (.slice ya na yc) (.slice za nb zc) (.int .i64 2) W2 := by
        obtain ⟨g0, g1, g2, _⟩ := HG2.out.cells
        exact ⟨g0, g1, g2, by rw [HW2.out]; simp [go_sem]⟩
      have htb : (w1.heap.size + 1 + 1) ≠ s + 1 := by omega
      have HBS := Lib.hid bs
      have HTB := Lib.hid htb
      clear bs htb e0 e1 e2 r0 r1 r2 fr
      first
      | (go_region_held3 (fun W => W.cell? ⟨s, 0, none⟩ = some (.slice a n cap) ∧ W.cell? ⟨s, 1, none⟩ = some (.slice ya na yc) ∧ W.cell? ⟨s, 2, none⟩ = some (.slice za nb zc) ∧ W.cell? ⟨(w1.heap.size + 1 + 1), 1, none⟩ = some (.int .i64 2))
        (with_reducible (first | assumption | exact BS.all HBS.out.drew | exact BS.all (BS.below (BS.of (by assumption)) (by assumption)) | exact BS.all (BS.put (BS.of (by assumption)) _ _ _ HTB.out)))
        (first
        | (go_at_call 77; (with_reducible refine (rset_lit base _ ya za na yc nb zc L true o 2 (2 : Int) rfl W2.drew HG2.out.drew.row (by rw [← HN.out]; omega) (by omega)).mono ?_); rintro e w4 ⟨v4, rfl, R4, b4⟩; obtain ⟨va, vc, rfl⟩ := R4.slice; have G4 := HG2.out.drew.below b4)
        | (go_at_call 78; (with_reducible refine (rword_lit true o 2 (2 : Int) rfl (by omega) w4).mono ?_); rintro e w5 ⟨u5, rfl, R5, b5⟩; have G5 := G4.below b5; obtain ⟨g0, g1, g2, r0, r1, r2, fr⟩ := G5.cells)))
      | fail
      all_goals
        go_wp2_with fail
        (try simp only [Exit.inBlock, Exit.then])
        refine bodyPost_ret (results_row_tmp2 rfl _ _ (s + 1) _ rfl (run_put3 w5 (s + 1) _ _ _ _ _ _ G5.res)) rfl ?_
        rw [← HWAS.out]
        have h1 := HG2.out.drew.lt
        have h2 := G4.lt
        have h3 := HS.out
        have h4 := HBASE.out
        exact WantR.mk 0 HS.out G5.lt G5.old ((R4.below b5).base (by omega)) (fun g hg => by have := own_first R4 g hg; omega) (R5.mono fun k hk => by omega)
    · have hbp : Below (put3 w1 (s + 1) (.slice a n cap) (.slice ya na yc) (.slice za nb zc)).heap.size (put3 w1 (s + 1) (.slice a n cap) (.slice ya na yc) (.slice za nb zc)) (((((put3 w1 (s + 1) (.slice a n cap) (.slice ya na yc) (.slice za nb zc)).alloc (.cells #[.int .i64 3, .int .i64 (-1), .int .i64 4, .int .i64 (-1), .int .i64 (-1), .int .i64 3] 3)).alloc (.cells #[.int .i64 1, .int .i64 0, .int .i64 0, .int .i64 0, .int .i64 0, .int .i64 0] 3)).alloc (.cells #[.int .i64 (-1), .int .i64 2, .int .i64 (-1), .int .i64 5, .int .i64 2, .int .i64 (-1)] 3)).alloc (.cells #[.int .i64 0, .int .i64 2, .int .i64 0, .int .i64 0, .int .i64 0, .int .i64 0] 3)) := (((below_alloc (put3 w1 (s + 1) (.slice a n cap) (.slice ya na yc) (.slice za nb zc)) _).trans ((below_alloc _ _).mono (by simp))).trans ((below_alloc _ _).mono (by simp; omega))).trans ((below_alloc _ _).mono (by simp; omega))
      have hres : (((((put3 w1 (s + 1) (.slice a n cap) (.slice ya na yc) (.slice za nb zc)).alloc (.cells #[.int .i64 3, .int .i64 (-1), .int .i64 4, .int .i64 (-1), .int .i64 (-1), .int .i64 3] 3)).alloc (.cells #[.int .i64 1, .int .i64 0, .int .i64 0, .int .i64 0, .int .i64 0, .int .i64 0] 3)).alloc (.cells #[.int .i64 (-1), .int .i64 2, .int .i64 (-1), .int .i64 5, .int .i64 2, .int .i64 (-1)] 3)).alloc (.cells #[.int .i64 0, .int .i64 2, .int .i64 0, .int .i64 0, .int .i64 0, .int .i64 0] 3)).heap[s + 1]? = some (.cells #[.slice a n cap, .slice ya na yc, .slice za nb zc] 46 (0, 0)) := by
        have h0 := heap_set (heap_set (heap_set HG1.out.res 0 (.slice a n cap)) 1 (.slice ya na yc)) 2 (.slice za nb zc)
        exact (hbp.block (s + 1) (lt_of_block h0)).trans h0
      have HBP := Lib.hid hbp
      have HRES := Lib.hid hres
      clear hbp hres
      go_wp2_with fail
      (try simp only [Exit.inBlock, Exit.then])
      refine bodyPost_ret (results_row_tmp2 rfl _ _ (s + 1) _ rfl (run_loadVar_row _ (s + 1) 46 46 #[.slice a n cap, .slice ya na yc, .slice za nb zc] (0, 0) _ HRES.out Try.underlying46 rfl size_ro)) rfl ?_
      rw [← HWAS.out]
      exact (WantR.mk 5 HS.out HG1.out.lt HG1.out.old HG1.out.row (fun g hg => by have := HOWN.out g hg; have := HS.out; omega) (RowIn.nil _ _ _)).below HBP.out
    · go_wp2_with fail
      rw [← HW2.out]
      have bs : BS s (w1.heap.size + 1 + 1) 3 (.slice a n cap) (.slice ya na yc) (.slice za nb zc) (.int .i64 5) W2 := by
        obtain ⟨g0, g1, g2, _⟩ := HG2.out.cells
        exact ⟨g0, g1, g2, by rw [HW2.out]; simp [go_sem]⟩
      have htb : (w1.heap.size + 1 + 1) ≠ s + 1 := by omega
      have HBS := Lib.hid bs
      have HTB := Lib.hid htb
      clear bs htb e0 e1 e2 r0 r1 r2 fr
      first
      | (go_region_held3 (fun W => W.cell? ⟨s, 0, none⟩ = some (.slice a n cap) ∧ W.cell? ⟨s, 1, none⟩ = some (.slice ya na yc) ∧ W.cell? ⟨s, 2, none⟩ = some (.slice za nb zc) ∧ W.cell? ⟨(w1.heap.size + 1 + 1), 3, none⟩ = some (.int .i64 5))
        (with_reducible (first | assumption | exact BS.all HBS.out.drew | exact BS.all (BS.below (BS.of (by assumption)) (by assumption)) | exact BS.all (BS.put (BS.of (by assumption)) _ _ _ HTB.out)))
        (first
        | (go_at_call 77; (with_reducible refine (rset_lit base _ ya za na yc nb zc L true o 5 (5 : Int) rfl W2.drew HG2.out.drew.row (by rw [← HN.out]; omega) (by omega)).mono ?_); rintro e w4 ⟨v4, rfl, R4, b4⟩; obtain ⟨va, vc, rfl⟩ := R4.slice; have G4 := HG2.out.drew.below b4)
        | (go_at_call 78; (with_reducible refine (rword_lit true o 0 (0 : Int) rfl (by omega) w4).mono ?_); rintro e w5 ⟨u5, rfl, R5, b5⟩; have G5 := G4.below b5; obtain ⟨g0, g1, g2, r0, r1, r2, fr⟩ := G5.cells)))
      | fail
      all_goals
        go_wp2_with fail
        (try simp only [Exit.inBlock, Exit.then])
        refine bodyPost_ret (results_row_tmp2 rfl _ _ (s + 1) _ rfl (run_put3 w5 (s + 1) _ _ _ _ _ _ G5.res)) rfl ?_
        rw [← HWAS.out]
        have h1 := HG2.out.drew.lt
        have h2 := G4.lt
        have h3 := HS.out
        have h4 := HBASE.out
        exact WantR.mk 0 HS.out G5.lt G5.old ((R4.below b5).base (by omega)) (fun g hg => by have := own_first R4 g hg; omega) (R5.mono fun k hk => by omega)
    · go_wp2_with fail
      rw [← HW2.out]
      have bs : BS s (w1.heap.size + 1 + 1) 4 (.slice a n cap) (.slice ya na yc) (.slice za nb zc) (.int .i64 2) W2 := by
        obtain ⟨g0, g1, g2, _⟩ := HG2.out.cells
        exact ⟨g0, g1, g2, by rw [HW2.out]; simp [go_sem]⟩
      have htb : (w1.heap.size + 1 + 1) ≠ s + 1 := by omega
      have HBS := Lib.hid bs
      have HTB := Lib.hid htb
      clear bs htb e0 e1 e2 r0 r1 r2 fr
      first
      | (go_region_held3 (fun W => W.cell? ⟨s, 0, none⟩ = some (.slice a n cap) ∧ W.cell? ⟨s, 1, none⟩ = some (.slice ya na yc) ∧ W.cell? ⟨s, 2, none⟩ = some (.slice za nb zc) ∧ W.cell? ⟨(w1.heap.size + 1 + 1), 4, none⟩ = some (.int .i64 2))
        (with_reducible (first | assumption | exact BS.all HBS.out.drew | exact BS.all (BS.below (BS.of (by assumption)) (by assumption)) | exact BS.all (BS.put (BS.of (by assumption)) _ _ _ HTB.out)))
        (first
        | (go_at_call 77; (with_reducible refine (rset_lit base _ ya za na yc nb zc L true o 2 (2 : Int) rfl W2.drew HG2.out.drew.row (by rw [← HN.out]; omega) (by omega)).mono ?_); rintro e w4 ⟨v4, rfl, R4, b4⟩; obtain ⟨va, vc, rfl⟩ := R4.slice; have G4 := HG2.out.drew.below b4)
        | (go_at_call 78; (with_reducible refine (rword_lit true o 0 (0 : Int) rfl (by omega) w4).mono ?_); rintro e w5 ⟨u5, rfl, R5, b5⟩; have G5 := G4.below b5; obtain ⟨g0, g1, g2, r0, r1, r2, fr⟩ := G5.cells)))
      | fail
      all_goals
        go_wp2_with fail
        (try simp only [Exit.inBlock, Exit.then])
        refine bodyPost_ret (results_row_tmp2 rfl _ _ (s + 1) _ rfl (run_put3 w5 (s + 1) _ _ _ _ _ _ G5.res)) rfl ?_
        rw [← HWAS.out]
        have h1 := HG2.out.drew.lt
        have h2 := G4.lt
        have h3 := HS.out
        have h4 := HBASE.out
        exact WantR.mk 0 HS.out G5.lt G5.old ((R4.below b5).base (by omega)) (fun g hg => by have := own_first R4 g hg; omega) (R5.mono fun k hk => by omega)
    · have hbp : Below (put3 w1 (s + 1) (.slice a n cap) (.slice ya na yc) (.slice za nb zc)).heap.size (put3 w1 (s + 1) (.slice a n cap) (.slice ya na yc) (.slice za nb zc)) (((((put3 w1 (s + 1) (.slice a n cap) (.slice ya na yc) (.slice za nb zc)).alloc (.cells #[.int .i64 3, .int .i64 (-1), .int .i64 4, .int .i64 (-1), .int .i64 (-1), .int .i64 3] 3)).alloc (.cells #[.int .i64 1, .int .i64 0, .int .i64 0, .int .i64 0, .int .i64 0, .int .i64 0] 3)).alloc (.cells #[.int .i64 (-1), .int .i64 2, .int .i64 (-1), .int .i64 5, .int .i64 2, .int .i64 (-1)] 3)).alloc (.cells #[.int .i64 0, .int .i64 2, .int .i64 0, .int .i64 0, .int .i64 0, .int .i64 0] 3)) := (((below_alloc (put3 w1 (s + 1) (.slice a n cap) (.slice ya na yc) (.slice za nb zc)) _).trans ((below_alloc _ _).mono (by simp))).trans ((below_alloc _ _).mono (by simp; omega))).trans ((below_alloc _ _).mono (by simp; omega))
      have hres : (((((put3 w1 (s + 1) (.slice a n cap) (.slice ya na yc) (.slice za nb zc)).alloc (.cells #[.int .i64 3, .int .i64 (-1), .int .i64 4, .int .i64 (-1), .int .i64 (-1), .int .i64 3] 3)).alloc (.cells #[.int .i64 1, .int .i64 0, .int .i64 0, .int .i64 0, .int .i64 0, .int .i64 0] 3)).alloc (.cells #[.int .i64 (-1), .int .i64 2, .int .i64 (-1), .int .i64 5, .int .i64 2, .int .i64 (-1)] 3)).alloc (.cells #[.int .i64 0, .int .i64 2, .int .i64 0, .int .i64 0, .int .i64 0, .int .i64 0] 3)).heap[s + 1]? = some (.cells #[.slice a n cap, .slice ya na yc, .slice za nb zc] 46 (0, 0)) := by
        have h0 := heap_set (heap_set (heap_set HG1.out.res 0 (.slice a n cap)) 1 (.slice ya na yc)) 2 (.slice za nb zc)
        exact (hbp.block (s + 1) (lt_of_block h0)).trans h0
      have HBP := Lib.hid hbp
      have HRES := Lib.hid hres
      clear hbp hres
      go_wp2_with fail
      (try simp only [Exit.inBlock, Exit.then])
      refine bodyPost_ret (results_row_tmp2 rfl _ _ (s + 1) _ rfl (run_loadVar_row _ (s + 1) 46 46 #[.slice a n cap, .slice ya na yc, .slice za nb zc] (0, 0) _ HRES.out Try.underlying46 rfl size_ro)) rfl ?_
      rw [← HWAS.out]
      exact (WantR.mk 5 HS.out HG1.out.lt HG1.out.old HG1.out.row (fun g hg => by have := HOWN.out g hg; have := HS.out; omega) (RowIn.nil _ _ _)).below HBP.out
  · rw [show rwantR L (253 : Nat) o = wantO L false o (wantOnS (stL L false o)) from rfl]
    obtain ⟨e0, e1, e2, r0, r1, r2, fr⟩ := HG.out.cells
    have hlo := HG.out.lt
    go_enter Try.func31, Try.ntmps31
    go_wp2_with fail
    rw [HW.out]
    refine (rstate_any base _ _ _ L false o W0 HG.out.row (by rw [← HN.out]; omega)).mono ?_
    rintro e w1 ⟨rfl, b1⟩
    have G1 := HG.out.below b1
    obtain ⟨was, hwas⟩ : ∃ was, was = stL L false o := ⟨_, rfl⟩
    have hw5 := HST.out false
    rw [← hwas] at hw5 ⊢
    have hls : s + 1 < w1.heap.size := by have := b1.size; have := HWSZ.out; omega
    have hls0 : s < w1.heap.size := by omega
    have hls1 : s < w1.heap.size + 1 := by omega
    have hls2 : s < w1.heap.size + 1 + 1 := by omega
    have hls3 : s < w1.heap.size + 1 + 1 + 1 := by omega
    have hls4 : s + 1 < w1.heap.size + 1 := by omega
    have hls5 : s + 1 < w1.heap.size + 1 + 1 := by omega
    have hls6 : s + 1 < w1.heap.size + 1 + 1 + 1 := by omega
    have HWAS := Lib.hid hwas
    have hb2 : Below w1.heap.size w1 ((w1.alloc (.cells #[.int .i64 3, .int .i64 (-1), .int .i64 4, .int .i64 (-1), .int .i64 (-1), .int .i64 3] 3)).alloc (.cells #[.int .i64 1, .int .i64 0, .int .i64 0, .int .i64 0, .int .i64 0, .int .i64 0] 3)) := (below_alloc w1 _).trans ((below_alloc _ _).mono (by simp))
    obtain ⟨W2, hW2⟩ : ∃ W2, W2 = ((w1.alloc (.cells #[.int .i64 3, .int .i64 (-1), .int .i64 4, .int .i64 (-1), .int .i64 (-1), .int .i64 3] 3)).alloc (.cells #[.int .i64 1, .int .i64 0, .int .i64 0, .int .i64 0, .int .i64 0, .int .i64 0] 3)) := ⟨_, rfl⟩
    rw [← hW2] at hb2
    have G2 := G1.below hb2
    have HG2 := Lib.hid G2
    have HW2 := Lib.hid hW2
    clear e0 e1 e2 r0 r1 r2 fr hlo b1 hwas HG HW
    obtain ⟨e0, e1, e2, r0, r1, r2, fr⟩ := G1.cells
    have HG1 := Lib.hid G1
    clear G1 G2 hb2 hW2
    have hcase : was = 0 ∨ was = 1 ∨ was = 2 ∨ was = 3 ∨ was = 4 ∨ was = 5 := by omega
    rw [← HS.out]
    rcases hcase with rfl | rfl | rfl | rfl | rfl | rfl
    · go_wp2_with fail
      rw [← HW2.out]
      have bs : BS s w1.heap.size 0 (.slice a n cap) (.slice ya na yc) (.slice za nb zc) (.int .i64 3) W2 := by
        obtain ⟨g0, g1, g2, _⟩ := HG2.out.cells
        exact ⟨g0, g1, g2, by rw [HW2.out]; simp [go_sem]⟩
      have htb : w1.heap.size ≠ s + 1 := by omega
      have HBS := Lib.hid bs
      have HTB := Lib.hid htb
      clear bs htb e0 e1 e2 r0 r1 r2 fr
      first
      | (go_region_held3 (fun W => W.cell? ⟨s, 0, none⟩ = some (.slice a n cap) ∧ W.cell? ⟨s, 1, none⟩ = some (.slice ya na yc) ∧ W.cell? ⟨s, 2, none⟩ = some (.slice za nb zc) ∧ W.cell? ⟨w1.heap.size, 0, none⟩ = some (.int .i64 3))
        (with_reducible (first | assumption | exact BS.all HBS.out.drew | exact BS.all (BS.below (BS.of (by assumption)) (by assumption)) | exact BS.all (BS.put (BS.of (by assumption)) _ _ _ HTB.out)))
        (first
        | (go_at_call 77; (with_reducible refine (rset_lit base _ ya za na yc nb zc L false o 3 (3 : Int) rfl W2.drew HG2.out.drew.row (by rw [← HN.out]; omega) (by omega)).mono ?_); rintro e w4 ⟨v4, rfl, R4, b4⟩; obtain ⟨va, vc, rfl⟩ := R4.slice; have G4 := HG2.out.drew.below b4)
        | (go_at_call 78; (with_reducible refine (rword_lit false o 1 (1 : Int) rfl (by omega) w4).mono ?_); rintro e w5 ⟨u5, rfl, R5, b5⟩; have G5 := G4.below b5; obtain ⟨g0, g1, g2, r0, r1, r2, fr⟩ := G5.cells)))
      | fail
      all_goals
        go_wp2_with fail
        (try simp only [Exit.inBlock, Exit.then])
        refine bodyPost_ret (results_row_tmp2 rfl _ _ (s + 1) _ rfl (run_put3 w5 (s + 1) _ _ _ _ _ _ G5.res)) rfl ?_
        rw [← HWAS.out]
        have h1 := HG2.out.drew.lt
        have h2 := G4.lt
        have h3 := HS.out
        have h4 := HBASE.out
        exact WantR.mk 0 HS.out G5.lt G5.old ((R4.below b5).base (by omega)) (fun g hg => by have := own_first R4 g hg; omega) (R5.mono fun k hk => by omega)
    · have hbp : Below (put3 w1 (s + 1) (.slice a n cap) (.slice ya na yc) (.slice za nb zc)).heap.size (put3 w1 (s + 1) (.slice a n cap) (.slice ya na yc) (.slice za nb zc)) (((put3 w1 (s + 1) (.slice a n cap) (.slice ya na yc) (.slice za nb zc)).alloc (.cells #[.int .i64 3, .int .i64 (-1), .int .i64 4, .int .i64 (-1), .int .i64 (-1), .int .i64 3] 3)).alloc (.cells #[.int .i64 1, .int .i64 0, .int .i64 0, .int .i64 0, .int .i64 0, .int .i64 0] 3)) := (below_alloc (put3 w1 (s + 1) (.slice a n cap) (.slice ya na yc) (.slice za nb zc)) _).trans ((below_alloc _ _).mono (by simp))
      have hres : (((put3 w1 (s + 1) (.slice a n cap) (.slice ya na yc) (.slice za nb zc)).alloc (.cells #[.int .i64 3, .int .i64 (-1), .int .i64 4, .int .i64 (-1), .int .i64 (-1), .int .i64 3] 3)).alloc (.cells #[.int .i64 1, .int .i64 0, .int .i64 0, .int .i64 0, .int .i64 0, .int .i64 0] 3)).heap[s + 1]? = some (.cells #[.slice a n cap, .slice ya na yc, .slice za nb zc] 46 (0, 0)) := by
        have h0 := heap_set (heap_set (heap_set HG1.out.res 0 (.slice a n cap)) 1 (.slice ya na yc)) 2 (.slice za nb zc)
        exact (hbp.block (s + 1) (lt_of_block h0)).trans h0
      have HBP := Lib.hid hbp
      have HRES := Lib.hid hres
      clear hbp hres
      go_wp2_with fail
      (try simp only [Exit.inBlock, Exit.then])
      refine bodyPost_ret (results_row_tmp2 rfl _ _ (s + 1) _ rfl (run_loadVar_row _ (s + 1) 46 46 #[.slice a n cap, .slice ya na yc, .slice za nb zc] (0, 0) _ HRES.out Try.underlying46 rfl size_ro)) rfl ?_
      rw [← HWAS.out]
      exact (WantR.mk 5 HS.out HG1.out.lt HG1.out.old HG1.out.row (fun g hg => by have := HOWN.out g hg; have := HS.out; omega) (RowIn.nil _ _ _)).below HBP.out
    · go_wp2_with fail
      rw [← HW2.out]
      have bs : BS s w1.heap.size 2 (.slice a n cap) (.slice ya na yc) (.slice za nb zc) (.int .i64 4) W2 := by
        obtain ⟨g0, g1, g2, _⟩ := HG2.out.cells
        exact ⟨g0, g1, g2, by rw [HW2.out]; simp [go_sem]⟩
      have htb : w1.heap.size ≠ s + 1 := by omega
      have HBS := Lib.hid bs
      have HTB := Lib.hid htb
      clear bs htb e0 e1 e2 r0 r1 r2 fr
      first
      | (go_region_held3 (fun W => W.cell? ⟨s, 0, none⟩ = some (.slice a n cap) ∧ W.cell? ⟨s, 1, none⟩ = some (.slice ya na yc) ∧ W.cell? ⟨s, 2, none⟩ = some (.slice za nb zc) ∧ W.cell? ⟨w1.heap.size, 2, none⟩ = some (.int .i64 4))
        (with_reducible (first | assumption | exact BS.all HBS.out.drew | exact BS.all (BS.below (BS.of (by assumption)) (by assumption)) | exact BS.all (BS.put (BS.of (by assumption)) _ _ _ HTB.out)))
        (first
        | (go_at_call 77; (with_reducible refine (rset_lit base _ ya za na yc nb zc L false o 4 (4 : Int) rfl W2.drew HG2.out.drew.row (by rw [← HN.out]; omega) (by omega)).mono ?_); rintro e w4 ⟨v4, rfl, R4, b4⟩; obtain ⟨va, vc, rfl⟩ := R4.slice; have G4 := HG2.out.drew.below b4)
        | (go_at_call 78; (with_reducible refine (rword_lit false o 0 (0 : Int) rfl (by omega) w4).mono ?_); rintro e w5 ⟨u5, rfl, R5, b5⟩; have G5 := G4.below b5; obtain ⟨g0, g1, g2, r0, r1, r2, fr⟩ := G5.cells)))
      | fail
      all_goals
        go_wp2_with fail
        (try simp only [Exit.inBlock, Exit.then])
        refine bodyPost_ret (results_row_tmp2 rfl _ _ (s + 1) _ rfl (run_put3 w5 (s + 1) _ _ _ _ _ _ G5.res)) rfl ?_
        rw [← HWAS.out]
        have h1 := HG2.out.drew.lt
        have h2 := G4.lt
        have h3 := HS.out
        have h4 := HBASE.out
        exact WantR.mk 0 HS.out G5.lt G5.old ((R4.below b5).base (by omega)) (fun g hg => by have := own_first R4 g hg; omega) (R5.mono fun k hk => by omega)
    · have hbp : Below (put3 w1 (s + 1) (.slice a n cap) (.slice ya na yc) (.slice za nb zc)).heap.size (put3 w1 (s + 1) (.slice a n cap) (.slice ya na yc) (.slice za nb zc)) (((put3 w1 (s + 1) (.slice a n cap) (.slice ya na yc) (.slice za nb zc)).alloc (.cells #[.int .i64 3, .int .i64 (-1), .int .i64 4, .int .i64 (-1), .int .i64 (-1), .int .i64 3] 3)).alloc (.cells #[.int .i64 1, .int .i64 0, .int .i64 0, .int .i64 0, .int .i64 0, .int .i64 0] 3)) := (below_alloc (put3 w1 (s + 1) (.slice a n cap) (.slice ya na yc) (.slice za nb zc)) _).trans ((below_alloc _ _).mono (by simp))
      have hres : (((put3 w1 (s + 1) (.slice a n cap) (.slice ya na yc) (.slice za nb zc)).alloc (.cells #[.int .i64 3, .int .i64 (-1), .int .i64 4, .int .i64 (-1), .int .i64 (-1), .int .i64 3] 3)).alloc (.cells #[.int .i64 1, .int .i64 0, .int .i64 0, .int .i64 0, .int .i64 0, .int .i64 0] 3)).heap[s + 1]? = some (.cells #[.slice a n cap, .slice ya na yc, .slice za nb zc] 46 (0, 0)) := by
        have h0 := heap_set (heap_set (heap_set HG1.out.res 0 (.slice a n cap)) 1 (.slice ya na yc)) 2 (.slice za nb zc)
        exact (hbp.block (s + 1) (lt_of_block h0)).trans h0
      have HBP := Lib.hid hbp
      have HRES := Lib.hid hres
      clear hbp hres
      go_wp2_with fail
      (try simp only [Exit.inBlock, Exit.then])
      refine bodyPost_ret (results_row_tmp2 rfl _ _ (s + 1) _ rfl (run_loadVar_row _ (s + 1) 46 46 #[.slice a n cap, .slice ya na yc, .slice za nb zc] (0, 0) _ HRES.out Try.underlying46 rfl size_ro)) rfl ?_
      rw [← HWAS.out]
      exact (WantR.mk 5 HS.out HG1.out.lt HG1.out.old HG1.out.row (fun g hg => by have := HOWN.out g hg; have := HS.out; omega) (RowIn.nil _ _ _)).below HBP.out
    · have hbp : Below (put3 w1 (s + 1) (.slice a n cap) (.slice ya na yc) (.slice za nb zc)).heap.size (put3 w1 (s + 1) (.slice a n cap) (.slice ya na yc) (.slice za nb zc)) (((put3 w1 (s + 1) (.slice a n cap) (.slice ya na yc) (.slice za nb zc)).alloc (.cells #[.int .i64 3, .int .i64 (-1), .int .i64 4, .int .i64 (-1), .int .i64 (-1), .int .i64 3] 3)).alloc (.cells #[.int .i64 1, .int .i64 0, .int .i64 0, .int .i64 0, .int .i64 0, .int .i64 0] 3)) := (below_alloc (put3 w1 (s + 1) (.slice a n cap) (.slice ya na yc) (.slice za nb zc)) _).trans ((below_alloc _ _).mono (by simp))
      have hres : (((put3 w1 (s + 1) (.slice a n cap) (.slice ya na yc) (.slice za nb zc)).alloc (.cells #[.int .i64 3, .int .i64 (-1), .int .i64 4, .int .i64 (-1), .int .i64 (-1), .int .i64 3] 3)).alloc (.cells #[.int .i64 1, .int .i64 0, .int .i64 0, .int .i64 0, .int .i64 0, .int .i64 0] 3)).heap[s + 1]? = some (.cells #[.slice a n cap, .slice ya na yc, .slice za nb zc] 46 (0, 0)) := by
        have h0 := heap_set (heap_set (heap_set HG1.out.res 0 (.slice a n cap)) 1 (.slice ya na yc)) 2 (.slice za nb zc)
        exact (hbp.block (s + 1) (lt_of_block h0)).trans h0
      have HBP := Lib.hid hbp
      have HRES := Lib.hid hres
      clear hbp hres
      go_wp2_with fail
      (try simp only [Exit.inBlock, Exit.then])
      refine bodyPost_ret (results_row_tmp2 rfl _ _ (s + 1) _ rfl (run_loadVar_row _ (s + 1) 46 46 #[.slice a n cap, .slice ya na yc, .slice za nb zc] (0, 0) _ HRES.out Try.underlying46 rfl size_ro)) rfl ?_
      rw [← HWAS.out]
      exact (WantR.mk 5 HS.out HG1.out.lt HG1.out.old HG1.out.row (fun g hg => by have := HOWN.out g hg; have := HS.out; omega) (RowIn.nil _ _ _)).below HBP.out
    · go_wp2_with fail
      rw [← HW2.out]
      have bs : BS s w1.heap.size 5 (.slice a n cap) (.slice ya na yc) (.slice za nb zc) (.int .i64 3) W2 := by
        obtain ⟨g0, g1, g2, _⟩ := HG2.out.cells
        exact ⟨g0, g1, g2, by rw [HW2.out]; simp [go_sem]⟩
      have htb : w1.heap.size ≠ s + 1 := by omega
      have HBS := Lib.hid bs
      have HTB := Lib.hid htb
      clear bs htb e0 e1 e2 r0 r1 r2 fr
      first
      | (go_region_held3 (fun W => W.cell? ⟨s, 0, none⟩ = some (.slice a n cap) ∧ W.cell? ⟨s, 1, none⟩ = some (.slice ya na yc) ∧ W.cell? ⟨s, 2, none⟩ = some (.slice za nb zc) ∧ W.cell? ⟨w1.heap.size, 5, none⟩ = some (.int .i64 3))
        (with_reducible (first | assumption | exact BS.all HBS.out.drew | exact BS.all (BS.below (BS.of (by assumption)) (by assumption)) | exact BS.all (BS.put (BS.of (by assumption)) _ _ _ HTB.out)))
        (first
        | (go_at_call 77; (with_reducible refine (rset_lit base _ ya za na yc nb zc L false o 3 (3 : Int) rfl W2.drew HG2.out.drew.row (by rw [← HN.out]; omega) (by omega)).mono ?_); rintro e w4 ⟨v4, rfl, R4, b4⟩; obtain ⟨va, vc, rfl⟩ := R4.slice; have G4 := HG2.out.drew.below b4)
        | (go_at_call 78; (with_reducible refine (rword_lit false o 0 (0 : Int) rfl (by omega) w4).mono ?_); rintro e w5 ⟨u5, rfl, R5, b5⟩; have G5 := G4.below b5; obtain ⟨g0, g1, g2, r0, r1, r2, fr⟩ := G5.cells)))
      | fail
      all_goals
        go_wp2_with fail
        (try simp only [Exit.inBlock, Exit.then])
        refine bodyPost_ret (results_row_tmp2 rfl _ _ (s + 1) _ rfl (run_put3 w5 (s + 1) _ _ _ _ _ _ G5.res)) rfl ?_
        rw [← HWAS.out]
        have h1 := HG2.out.drew.lt
        have h2 := G4.lt
        have h3 := HS.out
        have h4 := HBASE.out
        exact WantR.mk 0 HS.out G5.lt G5.old ((R4.below b5).base (by omega)) (fun g hg => by have := own_first R4 g hg; omega) (R5.mono fun k hk => by omega)
  · rw [show rwantR L (254 : Nat) o = wantO L false o (wantOffS (stL L false o)) from rfl]
    obtain ⟨e0, e1, e2, r0, r1, r2, fr⟩ := HG.out.cells
    have hlo := HG.out.lt
    go_enter Try.func31, Try.ntmps31
    go_wp2_with fail
    rw [HW.out]
    refine (rstate_any base _ _ _ L false o W0 HG.out.row (by rw [← HN.out]; omega)).mono ?_
    rintro e w1 ⟨rfl, b1⟩
    have G1 := HG.out.below b1
    obtain ⟨was, hwas⟩ : ∃ was, was = stL L false o := ⟨_, rfl⟩
    have hw5 := HST.out false
    rw [← hwas] at hw5 ⊢
    have hls : s + 1 < w1.heap.size := by have := b1.size; have := HWSZ.out; omega
    have hls0 : s < w1.heap.size := by omega
    have hls1 : s < w1.heap.size + 1 := by omega
    have hls2 : s < w1.heap.size + 1 + 1 := by omega
    have hls3 : s < w1.heap.size + 1 + 1 + 1 := by omega
    have hls4 : s + 1 < w1.heap.size + 1 := by omega
    have hls5 : s + 1 < w1.heap.size + 1 + 1 := by omega
    have hls6 : s + 1 < w1.heap.size + 1 + 1 + 1 := by omega
    have HWAS := Lib.hid hwas
    have hb2 : Below w1.heap.size w1 ((((w1.alloc (.cells #[.int .i64 3, .int .i64 (-1), .int .i64 4, .int .i64 (-1), .int .i64 (-1), .int .i64 3] 3)).alloc (.cells #[.int .i64 1, .int .i64 0, .int .i64 0, .int .i64 0, .int .i64 0, .int .i64 0] 3)).alloc (.cells #[.int .i64 (-1), .int .i64 2, .int .i64 (-1), .int .i64 5, .int .i64 2, .int .i64 (-1)] 3)).alloc (.cells #[.int .i64 0, .int .i64 2, .int .i64 0, .int .i64 0, .int .i64 0, .int .i64 0] 3)) := (((below_alloc w1 _).trans ((below_alloc _ _).mono (by simp))).trans ((below_alloc _ _).mono (by simp; omega))).trans ((below_alloc _ _).mono (by simp; omega))
    obtain ⟨W2, hW2⟩ : ∃ W2, W2 = ((((w1.alloc (.cells #[.int .i64 3, .int .i64 (-1), .int .i64 4, .int .i64 (-1), .int .i64 (-1), .int .i64 3] 3)).alloc (.cells #[.int .i64 1, .int .i64 0, .int .i64 0, .int .i64 0, .int .i64 0, .int .i64 0] 3)).alloc (.cells #[.int .i64 (-1), .int .i64 2, .int .i64 (-1), .int .i64 5, .int .i64 2, .int .i64 (-1)] 3)).alloc (.cells #[.int .i64 0, .int .i64 2, .int .i64 0, .int .i64 0, .int .i64 0, .int .i64 0] 3)) := ⟨_, rfl⟩
    rw [← hW2] at hb2
    have G2 := G1.below hb2
    have HG2 := Lib.hid G2
    have HW2 := Lib.hid hW2
    clear e0 e1 e2 r0 r1 r2 fr hlo b1 hwas HG HW
    obtain ⟨e0, e1, e2, r0, r1, r2, fr⟩ := G1.cells
    have HG1 := Lib.hid G1
    clear G1 G2 hb2 hW2
    have hcase : was = 0 ∨ was = 1 ∨ was = 2 ∨ was = 3 ∨ was = 4 ∨ was = 5 := by omega
    rw [← HS.out]
    rcases hcase with rfl | rfl | rfl | rfl | rfl | rfl
    · have hbp : Below (put3 w1 (s + 1) (.slice a n cap) (.slice ya na yc) (.slice za nb zc)).heap.size (put3 w1 (s + 1) (.slice a n cap) (.slice ya na yc) (.slice za nb zc)) (((((put3 w1 (s + 1) (.slice a n cap) (.slice ya na yc) (.slice za nb zc)).alloc (.cells #[.int .i64 3, .int .i64 (-1), .int .i64 4, .int .i64 (-1), .int .i64 (-1), .int .i64 3] 3)).alloc (.cells #[.int .i64 1, .int .i64 0, .int .i64 0, .int .i64 0, .int .i64 0, .int .i64 0] 3)).alloc (.cells #[.int .i64 (-1), .int .i64 2, .int .i64 (-1), .int .i64 5, .int .i64 2, .int .i64 (-1)] 3)).alloc (.cells #[.int .i64 0, .int .i64 2, .int .i64 0, .int .i64 0, .int .i64 0, .int .i64 0] 3)) := (((below_alloc (put3 w1 (s + 1) (.slice a n cap) (.slice ya na yc) (.slice za nb zc)) _).trans ((below_alloc _ _).mono (by simp))).trans ((below_alloc _ _).mono (by simp; omega))).trans ((below_alloc _ _).mono (by simp; omega))
      have hres : (((((put3 w1 (s + 1) (.slice a n cap) (.slice ya na yc) (.slice za nb zc)).alloc (.cells #[.int .i64 3, .int .i64 (-1), .int .i64 4, .int .i64 (-1), .int .i64 (-1), .int .i64 3] 3)).alloc (.cells #[.int .i64 1, .int .i64 0, .int .i64 0, .int .i64 0, .int .i64 0, .int .i64 0] 3)).alloc (.cells #[.int .i64 (-1), .int .i64 2, .int .i64 (-1), .int .i64 5, .int .i64 2, .int .i64 (-1)] 3)).alloc (.cells #[.int .i64 0, .int .i64 2, .int .i64 0, .int .i64 0, .int .i64 0, .int .i64 0] 3)).heap[s + 1]? = some (.cells #[.slice a n cap, .slice ya na yc, .slice za nb zc] 46 (0, 0)) := by
        have h0 := heap_set (heap_set (heap_set HG1.out.res 0 (.slice a n cap)) 1 (.slice ya na yc)) 2 (.slice za nb zc)
        exact (hbp.block (s + 1) (lt_of_block h0)).trans h0
      have HBP := Lib.hid hbp
      have HRES := Lib.hid hres
      clear hbp hres
      go_wp2_with fail
      (try simp only [Exit.inBlock, Exit.then])
      refine bodyPost_ret (results_row_tmp2 rfl _ _ (s + 1) _ rfl (run_loadVar_row _ (s + 1) 46 46 #[.slice a n cap, .slice ya na yc, .slice za nb zc] (0, 0) _ HRES.out Try.underlying46 rfl size_ro)) rfl ?_
      rw [← HWAS.out]
      exact (WantR.mk 5 HS.out HG1.out.lt HG1.out.old HG1.out.row (fun g hg => by have := HOWN.out g hg; have := HS.out; omega) (RowIn.nil _ _ _)).below HBP.out
    · go_wp2_with fail
      rw [← HW2.out]
      have bs : BS s (w1.heap.size + 1 + 1) 1 (.slice a n cap) (.slice ya na yc) (.slice za nb zc) (.int .i64 2) W2 := by
        obtain ⟨g0, g1, g2, _⟩ := HG2.out.cells
        exact ⟨g0, g1, g2, by rw [HW2.out]; simp [go_sem]⟩
      have htb : (w1.heap.size + 1 + 1) ≠ s + 1 := by omega
      have HBS := Lib.hid bs
      have HTB := Lib.hid htb
      clear bs htb e0 e1 e2 r0 r1 r2 fr
      first
      | (go_region_held3 (fun W => W.cell? ⟨s, 0, none⟩ = some (.slice a n cap) ∧ W.cell? ⟨s, 1, none⟩ = some (.slice ya na yc) ∧ W.cell? ⟨s, 2, none⟩ = some (.slice za nb zc) ∧ W.cell? ⟨(w1.heap.size + 1 + 1), 1, none⟩ = some (.int .i64 2))
        (with_reducible (first | assumption | exact BS.all HBS.out.drew | exact BS.all (BS.below (BS.of (by assumption)) (by assumption)) | exact BS.all (BS.put (BS.of (by assumption)) _ _ _ HTB.out)))
        (first
        | (go_at_call 77; (with_reducible refine (rset_lit base _ ya za na yc nb zc L false o 2 (2 : Int) rfl W2.drew HG2.out.drew.row (by rw [← HN.out]; omega) (by omega)).mono ?_); rintro e w4 ⟨v4, rfl, R4, b4⟩; obtain ⟨va, vc, rfl⟩ := R4.slice; have G4 := HG2.out.drew.below b4)
        | (go_at_call 78; (with_reducible refine (rword_lit false o 2 (2 : Int) rfl (by omega) w4).mono ?_); rintro e w5 ⟨u5, rfl, R5, b5⟩; have G5 := G4.below b5; obtain ⟨g0, g1, g2, r0, r1, r2, fr⟩ := G5.cells)))
      | fail
      all_goals
        go_wp2_with fail
        (try simp only [Exit.inBlock, Exit.then])
        refine bodyPost_ret (results_row_tmp2 rfl _ _ (s + 1) _ rfl (run_put3 w5 (s + 1) _ _ _ _ _ _ G5.res)) rfl ?_
        rw [← HWAS.out]
        have h1 := HG2.out.drew.lt
        have h2 := G4.lt
        have h3 := HS.out
        have h4 := HBASE.out
        exact WantR.mk 0 HS.out G5.lt G5.old ((R4.below b5).base (by omega)) (fun g hg => by have := own_first R4 g hg; omega) (R5.mono fun k hk => by omega)
    · have hbp : Below (put3 w1 (s + 1) (.slice a n cap) (.slice ya na yc) (.slice za nb zc)).heap.size (put3 w1 (s + 1) (.slice a n cap) (.slice ya na yc) (.slice za nb zc)) (((((put3 w1 (s + 1) (.slice a n cap) (.slice ya na yc) (.slice za nb zc)).alloc (.cells #[.int .i64 3, .int .i64 (-1), .int .i64 4, .int .i64 (-1), .int .i64 (-1), .int .i64 3] 3)).alloc (.cells #[.int .i64 1, .int .i64 0, .int .i64 0, .int .i64 0, .int .i64 0, .int .i64 0] 3)).alloc (.cells #[.int .i64 (-1), .int .i64 2, .int .i64 (-1), .int .i64 5, .int .i64 2, .int .i64 (-1)] 3)).alloc (.cells #[.int .i64 0, .int .i64 2, .int .i64 0, .int .i64 0, .int .i64 0, .int .i64 0] 3)) := (((below_alloc (put3 w1 (s + 1) (.slice a n cap) (.slice ya na yc) (.slice za nb zc)) _).trans ((below_alloc _ _).mono (by simp))).trans ((below_alloc _ _).mono (by simp; omega))).trans ((below_alloc _ _).mono (by simp; omega))
      have hres : (((((put3 w1 (s + 1) (.slice a n cap) (.slice ya na yc) (.slice za nb zc)).alloc (.cells #[.int .i64 3, .int .i64 (-1), .int .i64 4, .int .i64 (-1), .int .i64 (-1), .int .i64 3] 3)).alloc (.cells #[.int .i64 1, .int .i64 0, .int .i64 0, .int .i64 0, .int .i64 0, .int .i64 0] 3)).alloc (.cells #[.int .i64 (-1), .int .i64 2, .int .i64 (-1), .int .i64 5, .int .i64 2, .int .i64 (-1)] 3)).alloc (.cells #[.int .i64 0, .int .i64 2, .int .i64 0, .int .i64 0, .int .i64 0, .int .i64 0] 3)).heap[s + 1]? = some (.cells #[.slice a n cap, .slice ya na yc, .slice za nb zc] 46 (0, 0)) := by
        have h0 := heap_set (heap_set (heap_set HG1.out.res 0 (.slice a n cap)) 1 (.slice ya na yc)) 2 (.slice za nb zc)
        exact (hbp.block (s + 1) (lt_of_block h0)).trans h0
      have HBP := Lib.hid hbp
      have HRES := Lib.hid hres
      clear hbp hres
      go_wp2_with fail
      (try simp only [Exit.inBlock, Exit.then])
      refine bodyPost_ret (results_row_tmp2 rfl _ _ (s + 1) _ rfl (run_loadVar_row _ (s + 1) 46 46 #[.slice a n cap, .slice ya na yc, .slice za nb zc] (0, 0) _ HRES.out Try.underlying46 rfl size_ro)) rfl ?_
      rw [← HWAS.out]
      exact (WantR.mk 5 HS.out HG1.out.lt HG1.out.old HG1.out.row (fun g hg => by have := HOWN.out g hg; have := HS.out; omega) (RowIn.nil _ _ _)).below HBP.out
    · go_wp2_with fail
      rw [← HW2.out]
      have bs : BS s (w1.heap.size + 1 + 1) 3 (.slice a n cap) (.slice ya na yc) (.slice za nb zc) (.int .i64 5) W2 := by
        obtain ⟨g0, g1, g2, _⟩ := HG2.out.cells
        exact ⟨g0, g1, g2, by rw [HW2.out]; simp [go_sem]⟩
      have htb : (w1.heap.size + 1 + 1) ≠ s + 1 := by omega
      have HBS := Lib.hid bs
      have HTB := Lib.hid htb
      clear bs htb e0 e1 e2 r0 r1 r2 fr
      first
      | (go_region_held3 (fun W => W.cell? ⟨s, 0, none⟩ = some (.slice a n cap) ∧ W.cell? ⟨s, 1, none⟩ = some (.slice ya na yc) ∧ W.cell? ⟨s, 2, none⟩ = some (.slice za nb zc) ∧ W.cell? ⟨(w1.heap.size + 1 + 1), 3, none⟩ = some (.int .i64 5))
        (with_reducible (first | assumption | exact BS.all HBS.out.drew | exact BS.all (BS.below (BS.of (by assumption)) (by assumption)) | exact BS.all (BS.put (BS.of (by assumption)) _ _ _ HTB.out)))
        (first
        | (go_at_call 77; (with_reducible refine (rset_lit base _ ya za na yc nb zc L false o 5 (5 : Int) rfl W2.drew HG2.out.drew.row (by rw [← HN.out]; omega) (by omega)).mono ?_); rintro e w4 ⟨v4, rfl, R4, b4⟩; obtain ⟨va, vc, rfl⟩ := R4.slice; have G4 := HG2.out.drew.below b4)
        | (go_at_call 78; (with_reducible refine (rword_lit false o 0 (0 : Int) rfl (by omega) w4).mono ?_); rintro e w5 ⟨u5, rfl, R5, b5⟩; have G5 := G4.below b5; obtain ⟨g0, g1, g2, r0, r1, r2, fr⟩ := G5.cells)))
      | fail
      all_goals
        go_wp2_with fail
        (try simp only [Exit.inBlock, Exit.then])
        refine bodyPost_ret (results_row_tmp2 rfl _ _ (s + 1) _ rfl (run_put3 w5 (s + 1) _ _ _ _ _ _ G5.res)) rfl ?_
        rw [← HWAS.out]
        have h1 := HG2.out.drew.lt
        have h2 := G4.lt
        have h3 := HS.out
        have h4 := HBASE.out
        exact WantR.mk 0 HS.out G5.lt G5.old ((R4.below b5).base (by omega)) (fun g hg => by have := own_first R4 g hg; omega) (R5.mono fun k hk => by omega)
    · go_wp2_with fail
      rw [← HW2.out]
      have bs : BS s (w1.heap.size + 1 + 1) 4 (.slice a n cap) (.slice ya na yc) (.slice za nb zc) (.int .i64 2) W2 := by
        obtain ⟨g0, g1, g2, _⟩ := HG2.out.cells
        exact ⟨g0, g1, g2, by rw [HW2.out]; simp [go_sem]⟩
      have htb : (w1.heap.size + 1 + 1) ≠ s + 1 := by omega
      have HBS := Lib.hid bs
      have HTB := Lib.hid htb
      clear bs htb e0 e1 e2 r0 r1 r2 fr
      first
      | (go_region_held3 (fun W => W.cell? ⟨s, 0, none⟩ = some (.slice a n cap) ∧ W.cell? ⟨s, 1, none⟩ = some (.slice ya na yc) ∧ W.cell? ⟨s, 2, none⟩ = some (.slice za nb zc) ∧ W.cell? ⟨(w1.heap.size + 1 + 1), 4, none⟩ = some (.int .i64 2))
        (with_reducible (first | assumption | exact BS.all HBS.out.drew | exact BS.all (BS.below (BS.of (by assumption)) (by assumption)) | exact BS.all (BS.put (BS.of (by assumption)) _ _ _ HTB.out)))
        (first
        | (go_at_call 77; (with_reducible refine (rset_lit base _ ya za na yc nb zc L false o 2 (2 : Int) rfl W2.drew HG2.out.drew.row (by rw [← HN.out]; omega) (by omega)).mono ?_); rintro e w4 ⟨v4, rfl, R4, b4⟩; obtain ⟨va, vc, rfl⟩ := R4.slice; have G4 := HG2.out.drew.below b4)
        | (go_at_call 78; (with_reducible refine (rword_lit false o 0 (0 : Int) rfl (by omega) w4).mono ?_); rintro e w5 ⟨u5, rfl, R5, b5⟩; have G5 := G4.below b5; obtain ⟨g0, g1, g2, r0, r1, r2, fr⟩ := G5.cells)))
      | fail
      all_goals
        go_wp2_with fail
        (try simp only [Exit.inBlock, Exit.then])
        refine bodyPost_ret (results_row_tmp2 rfl _ _ (s + 1) _ rfl (run_put3 w5 (s + 1) _ _ _ _ _ _ G5.res)) rfl ?_
        rw [← HWAS.out]
        have h1 := HG2.out.drew.lt
        have h2 := G4.lt
        have h3 := HS.out
        have h4 := HBASE.out
        exact WantR.mk 0 HS.out G5.lt G5.old ((R4.below b5).base (by omega)) (fun g hg => by have := own_first R4 g hg; omega) (R5.mono fun k hk => by omega)
    · have hbp : Below (put3 w1 (s + 1) (.slice a n cap) (.slice ya na yc) (.slice za nb zc)).heap.size (put3 w1 (s + 1) (.slice a n cap) (.slice ya na yc) (.slice za nb zc)) (((((put3 w1 (s + 1) (.slice a n cap) (.slice ya na yc) (.slice za nb zc)).alloc (.cells #[.int .i64 3, .int .i64 (-1), .int .i64 4, .int .i64 (-1), .int .i64 (-1), .int .i64 3] 3)).alloc (.cells #[.int .i64 1, .int .i64 0, .int .i64 0, .int .i64 0, .int .i64 0, .int .i64 0] 3)).alloc (.cells #[.int .i64 (-1), .int .i64 2, .int .i64 (-1), .int .i64 5, .int .i64 2, .int .i64 (-1)] 3)).alloc (.cells #[.int .i64 0, .int .i64 2, .int .i64 0, .int .i64 0, .int .i64 0, .int .i64 0] 3)) := (((below_alloc (put3 w1 (s + 1) (.slice a n cap) (.slice ya na yc) (.slice za nb zc)) _).trans ((below_alloc _ _).mono (by simp))).trans ((below_alloc _ _).mono (by simp; omega))).trans ((below_alloc _ _).mono (by simp; omega))
      have hres : (((((put3 w1 (s + 1) (.slice a n cap) (.slice ya na yc) (.slice za nb zc)).alloc (.cells #[.int .i64 3, .int .i64 (-1), .int .i64 4, .int .i64 (-1), .int .i64 (-1), .int .i64 3] 3)).alloc (.cells #[.int .i64 1, .int .i64 0, .int .i64 0, .int .i64 0, .int .i64 0, .int .i64 0] 3)).alloc (.cells #[.int .i64 (-1), .int .i64 2, .int .i64 (-1), .int .i64 5, .int .i64 2, .int .i64 (-1)] 3)).alloc (.cells #[.int .i64 0, .int .i64 2, .int .i64 0, .int .i64 0, .int .i64 0, .int .i64 0] 3)).heap[s + 1]? = some (.cells #[.slice a n cap, .slice ya na yc, .slice za nb zc] 46 (0, 0)) := by
        have h0 := heap_set (heap_set (heap_set HG1.out.res 0 (.slice a n cap)) 1 (.slice ya na yc)) 2 (.slice za nb zc)
        exact (hbp.block (s + 1) (lt_of_block h0)).trans h0
      have HBP := Lib.hid hbp
      have HRES := Lib.hid hres
      clear hbp hres
      go_wp2_with fail
      (try simp only [Exit.inBlock, Exit.then])
      refine bodyPost_ret (results_row_tmp2 rfl _ _ (s + 1) _ rfl (run_loadVar_row _ (s + 1) 46 46 #[.slice a n cap, .slice ya na yc, .slice za nb zc] (0, 0) _ HRES.out Try.underlying46 rfl size_ro)) rfl ?_
      rw [← HWAS.out]
      exact (WantR.mk 5 HS.out HG1.out.lt HG1.out.old HG1.out.row (fun g hg => by have := HOWN.out g hg; have := HS.out; omega) (RowIn.nil _ _ _)).below HBP.out
  · rw [show rwantR L (c : Int) o = (L, [], 1) from by unfold rwantR; rw [if_neg (by omega), if_neg (by omega), if_neg (by omega), if_neg (by omega)]]
    have d1 : decide ((c : Int) < 251) = true := by simp; omega
    have hb : Below w.heap.size w ((w.alloc (.cells #[.slice a n cap, .slice ya na yc, .slice za nb zc] 46)).alloc (.cells #[.slice a n cap, .slice ya na yc, .slice za nb zc] 46)) := (below_alloc w _).trans ((below_alloc _ _).mono (by simp))
    have hfin := heap_alloc_new (w.alloc (.cells #[.slice a n cap, .slice ya na yc, .slice za nb zc] 46)) (.cells #[.slice a n cap, .slice ya na yc, .slice za nb zc] 46)
    rw [World.size_alloc] at hfin
    have HB := Lib.hid hb
    have HFIN := Lib.hid hfin
    clear hc h hb hfin
    go_enter Try.func31, Try.ntmps31
    go_wp2_with fail
    refine bodyPost_ret (results_row_tmp2 rfl _ _ (w.heap.size + 1) _ rfl (run_loadVar_row _ (w.heap.size + 1) 46 46 #[.slice a n cap, .slice ya na yc, .slice za nb zc] (0, 0) _ HFIN.out Try.underlying46 rfl size_ro)) rfl ?_
    exact ⟨_, _, rfl, HROW.out.below HB.out, RowIn.nil _ _ _, HB.out⟩
  · rw [show rwantR L (c : Int) o = (L, [], 1) from by unfold rwantR; rw [if_neg (by omega), if_neg (by omega), if_neg (by omega), if_neg (by omega)]]
    have d1 : decide ((c : Int) < 251) = false := by simp; omega
    have d2 : ((c : Int) == 255) = true := by simp; omega
    have hb : Below w.heap.size w ((w.alloc (.cells #[.slice a n cap, .slice ya na yc, .slice za nb zc] 46)).alloc (.cells #[.slice a n cap, .slice ya na yc, .slice za nb zc] 46)) := (below_alloc w _).trans ((below_alloc _ _).mono (by simp))
    have hfin := heap_alloc_new (w.alloc (.cells #[.slice a n cap, .slice ya na yc, .slice za nb zc] 46)) (.cells #[.slice a n cap, .slice ya na yc, .slice za nb zc] 46)
    rw [World.size_alloc] at hfin
    have HB := Lib.hid hb
    have HFIN := Lib.hid hfin
    clear hc h hb hfin
    go_enter Try.func31, Try.ntmps31
    go_wp2_with fail
    refine bodyPost_ret (results_row_tmp2 rfl _ _ (w.heap.size + 1) _ rfl (run_loadVar_row _ (w.heap.size + 1) 46 46 #[.slice a n cap, .slice ya na yc, .slice za nb zc] (0, 0) _ HFIN.out Try.underlying46 rfl size_ro)) rfl ?_
    exact ⟨_, _, rfl, HROW.out.below HB.out, RowIn.nil _ _ _, HB.out⟩
end Go.Proofs.Ytimidoaafllnkaa.Opt
