/-
  The reference's clock: contract of its Go.
-/
import Derived.Test.YtndhhpiklaffoaaClockRefE
namespace Go.Proofs.Ytndhhpiklaffoaa.Clock
open Go.RowKit
open Mail (Turn ret_int ret_bool sameInts_any RowOf ownsRow_base info_int)
set_option linter.unusedVariables false

theorem RefRow.keep {base : Nat} {W W' : World} {v : Value} {R : List (Int × Int)} (h : RefRow base W v R) (hk : ∀ r, v.ownBlock = some r → r < W.heap.size → W'.heap[r]? = W.heap[r]?) : RefRow base W' v R := by
  refine ⟨h.1, ?_⟩
  rcases h.2 with h0 | ⟨g, cap, cur, rfl, hg, hgb, rest⟩
  · exact .inl h0
  · exact .inr ⟨g, cap, cur, rfl, hg, (hk g rfl (lt_of_block hgb)).trans hgb, rest⟩
/-- A row of alarms and a row of numbers lie in unlike blocks. -/
theorem RefRow.apart {base b2 n : Nat} {W : World} {v u : Value} {R : List (Int × Int)} {xs : List Value} (h : RefRow base W v R) (hu : W.ownsRow b2 3 1 u n xs) : ∀ r, v.ownBlock = some r → u.ownBlock ≠ some r := by
  intro r hr hur
  rcases h.2 with ⟨rfl, _⟩ | ⟨g, cap, cur, rfl, _, hgb, _⟩
  · cases hr
  · obtain rfl : r = g := by simpa [Value.ownBlock, eq_comm] using hr
    rcases hu.2 with ⟨rfl, _⟩ | ⟨g', cap', cur', rfl, _, hgb', _⟩
    · cases hur
    · obtain rfl : r = g' := by simpa [Value.ownBlock, eq_comm] using hur
      rw [hgb] at hgb'
      simp at hgb'
theorem RefRow.ge {base : Nat} {W : World} {v : Value} {R : List (Int × Int)} (h : RefRow base W v R) : ∀ r, v.ownBlock = some r → base ≤ r ∧ r < W.heap.size := by
  intro r hr
  rcases h.2 with ⟨rfl, _⟩ | ⟨g, cap, cur, rfl, hg, hgb, _⟩
  · cases hr
  · obtain rfl : r = g := by simpa [Value.ownBlock, eq_comm] using hr
    exact ⟨hg, lt_of_block hgb⟩
section
variable {base n : Nat} {W W' : World} {u : Value} {xs : List Value}
theorem own_ge (h : W.ownsRow base 3 1 u n xs) : ∀ r, u.ownBlock = some r → base ≤ r ∧ r < W.heap.size := by
  intro r hr
  rcases h.2 with ⟨rfl, _⟩ | ⟨g, cap, cur, rfl, hg, hgb, _⟩
  · cases hr
  · obtain rfl : r = g := by simpa [Value.ownBlock, eq_comm] using hr
    exact ⟨hg, lt_of_block hgb⟩
theorem own_keep (h : W.ownsRow base 3 1 u n xs) (hk : ∀ r, u.ownBlock = some r → r < W.heap.size → W'.heap[r]? = W.heap[r]?) : W'.ownsRow base 3 1 u n xs := by
  refine ⟨h.1, ?_⟩
  rcases h.2 with h0 | ⟨g, cap, cur, rfl, hg, hgb, rest⟩
  · exact .inl h0
  · exact .inr ⟨g, cap, cur, rfl, hg, (hk g rfl (lt_of_block hgb)).trans hgb, rest⟩
theorem own_below (h : W.ownsRow base 3 1 u n xs) (b : Below W.heap.size W W') : W'.ownsRow base 3 1 u n xs := own_keep h fun r _ hr => b.block r hr
theorem own_setCell (h : W.ownsRow base 3 1 u n xs) (k o : Nat) (x : Value) (hk : k < base) : (W.setCell ⟨k, o, none⟩ x).ownsRow base 3 1 u n xs :=
  own_keep h fun r hr _ => Below.heap_setCell _ _ _ _ (by have := (own_ge h r hr).1; show r ≠ k; omega)
end
theorem SS.grownU {s n : Nat} {w W w5 : World} {now : Int} {v u : Value} {xs : List Value} (h : SS s w now v W) (hu : W.ownsRow (s + 2) 3 1 u n xs) (hg : W.grownBy w5 u.ownBlock) : SS s w now v w5 := by
  have hl := h.lt
  have e : ∀ k, k < s + 2 → w5.heap[k]? = W.heap[k]? := fun k hk => hg.block k (by omega) (fun e => by have := (own_ge hu k e.symm).1; omega)
  exact ⟨(e s (by omega)).trans h.box, (e (s + 1) (by omega)).trans h.res, h.old.grown hg (by omega) (fun r e => by have := (own_ge hu r e).1; omega)⟩
/-- What Go's loop holds: k alarms rang. -/
structure GS (base s : Nat) (w : World) (nw : Int) (L : List (Int × Int)) (k : Nat) (v u : Value) (R : List (Int × Int)) (wr : World) : Prop where
  ss : SS s w nw v wr
  row : RefRow base wr v R
  ap : ∀ r, v.ownBlock = some r → r ≠ s ∧ r ≠ s + 1
  perm : R.Perm (L.drop k)
  due : ∀ j, j < k → (L.getD j (0, 0)).1 ≤ nw
  out : wr.ownsRow (s + 2) 3 1 u k (((L.take k).map (·.2)).map (Value.int .i64))
def GoRel2 (base s n : Nat) (w : World) (nw : Int) (L : List (Int × Int)) (u : Value) (wr : World) : Prop :=
  ∃ k v R, k ≤ n ∧ GS base s w nw L k v u R wr
def GoPost2 (base : Nat) (nw : Int) (w : World) (L : List (Int × Int)) (e : Ending) (w' : World) : Prop :=
  ∃ v' u R', e = .returned (.tuple #[.agg #[.int .i64 nw, v'], u]) ∧ RefRow base w' v' R' ∧ R'.Perm (restL nw L) ∧ w'.ownsRow w.heap.size 3 1 u (rungL nw L).length ((rungL nw L).map (Value.int .i64)) ∧ Below w.heap.size w w'
theorem step_cases {now t : Int} (n0 : 0 ≤ now) (n1 : now ≤ 1099511627776) : (t ≤ 0 ∧ stepI now t = now) ∨ (0 < t ∧ 1099511627776 - now < t ∧ stepI now t = now + (1099511627776 - now)) ∨ (0 < t ∧ t ≤ 1099511627776 - now ∧ stepI now t = now + t) := by
  unfold stepI lateI
  omega
theorem gs_end {base s k : Nat} {w wr W2 : World} {nw : Int} {L R : List (Int × Int)} {v u : Value} (hs : s = w.heap.size) (hk : k ≤ L.length) (G : GS base s w nw L k v u R wr) (hu : Below wr.heap.size wr W2) (hdue : k < L.length → ¬ (L.getD k (0, 0)).1 ≤ nw) (o : Obj) :
    (((W2.setCell ⟨s + 1, 0, none⟩ (.int .i64 nw)).setCell ⟨s + 1, 1, none⟩ v).alloc o).heap[s + 1]? = some (.cells #[.int .i64 nw, v] 60 (0, 0)) ∧
    GoPost2 base nw w L (.returned (.tuple #[.agg #[.int .i64 nw, v], u])) (((W2.setCell ⟨s + 1, 0, none⟩ (.int .i64 nw)).setCell ⟨s + 1, 1, none⟩ v).alloc o) := by
  have h2 := G.ss.below hu
  obtain ⟨e1, e2⟩ := h2.end (u := v) nw
  have hl := lt_of_block e1
  obtain ⟨d1, d2⟩ := due_split hk G.due hdue
  refine ⟨(Below.heap_alloc _ _ _ hl).trans e1, v, u, R, rfl, ?_, by rw [d2]; exact G.perm, ?_, by rw [← hs]; exact e2.alloc (by omega) o⟩
  · refine (G.row.below hu).keep fun r hr hlt => ?_
    have hne := G.ap r hr
    rw [Below.heap_alloc _ _ _ (by simpa using hlt), Below.heap_setCell _ _ _ _ (by show r ≠ s + 1; omega), Below.heap_setCell _ _ _ _ (by show r ≠ s + 1; omega)]
  · have h3 := own_setCell (own_setCell (own_below G.out hu) (s + 1) 0 (.int .i64 nw) (by omega)) (s + 1) 1 v (by omega)
    have h4 := own_below h3 ((Below.refl _ _).alloc (Nat.le_refl _) o)
    rw [d1, show ((L.take k).map (·.2)).length = k by simp; omega]
    refine ⟨h4.1, ?_⟩
    rcases h4.2 with h0 | ⟨g, cap, cur, rfl, hg, rest⟩
    · exact .inl h0
    · exact .inr ⟨g, cap, cur, rfl, by omega, rest⟩
def sliceLen : Value → Nat
  | .slice _ k _ => k
  | _ => 0
theorem gs_new {base s : Nat} {w W0 : World} {nw : Int} {v : Value} {R L : List (Int × Int)} (hs : s = w.heap.size) (h : RefRow base w v R) (hp : R.Perm L)
    (hW : W0 = ((w.alloc (.cells #[.int .i64 nw, v] 60)).alloc (.cells #[.int .i64 0, .slice none 0 0] 60)).alloc (.cells #[] 3)) :
    GS base s w nw L 0 v (.slice (some ⟨s + 1 + 1, 0, none⟩) 0 0) R W0 := by
  have z1 : ∀ o, (w.alloc o).heap.size = s + 1 := fun o => by rw [World.size_alloc, hs]
  have z2 : ∀ o o', ((w.alloc o).alloc o').heap.size = s + 1 + 1 := fun o o' => by rw [World.size_alloc, z1]
  have hold : Below s w W0 := by
    rw [hW, hs]
    exact (((Below.refl _ w).alloc (Nat.le_refl _) _).alloc (by simp) _).alloc (by simp; omega) _
  refine ⟨⟨?_, ?_, hold⟩, h.below (by rw [← hs]; exact hold), ?_, by simpa using hp, fun j hj => absurd hj (by omega), ?_⟩
  · rw [hW, Below.heap_alloc _ _ _ (by rw [z2]; omega), Below.heap_alloc _ _ _ (by rw [z1]; omega), hs]
    exact heap_alloc_new w _
  · rw [hW, Below.heap_alloc _ _ _ (by rw [z2]; omega)]
    have := heap_alloc_new (w.alloc (.cells #[.int .i64 nw, v] 60)) (.cells #[.int .i64 0, .slice none 0 0] 60)
    rw [z1] at this
    exact this
  · intro r hr
    rcases h.2 with ⟨rfl, _⟩ | ⟨g, cap, cur, rfl, _, hgb, _⟩
    · cases hr
    · obtain rfl : r = g := by simpa [Value.ownBlock, eq_comm] using hr
      have := lt_of_block hgb
      omega
  · refine ⟨by simp, .inr ⟨s + 1 + 1, 0, #[], rfl, by omega, ?_, by simp, by simp [maxLen], rfl, by simp⟩⟩
    have := heap_alloc_new ((w.alloc (.cells #[.int .i64 nw, v] 60)).alloc (.cells #[.int .i64 0, .slice none 0 0] 60)) (.cells #[] 3)
    rw [z2, ← hW] at this
    exact this
set_option maxRecDepth 100000 in
set_option maxHeartbeats 4000000 in
theorem rgo_any (base : Nat) (now t : Int) (v : Value) (R L : List (Int × Int)) (w : World) (h : RefRow base w v R) (hp : R.Perm L) (wf : WF now L) (hl : L.length ≤ 100) (hb : base ≤ w.heap.size) :
    Calls Try.prog 33 #[.agg #[.int .i64 now, v], .int .i64 t] w (GoPost2 base (stepI now t) w L) := by
  obtain ⟨a, m, cap, rfl⟩ := h.slice
  have hz := (zero_of_info info_rc).1
  obtain ⟨i0, hi, hz0, hz1, hz2⟩ := info_parts info_int
  have n0 := wf.n0
  have n1 := wf.n1
  unfold MT at n1
  obtain ⟨s, hs⟩ : ∃ s, s = w.heap.size := ⟨_, rfl⟩
  obtain ⟨h1, h2, h3⟩ := rset_two hs #[.int .i64 now, .slice a m cap] #[.int .i64 0, .slice none 0 0]
  have HH := Lib.hid h
  have HP := Lib.hid hp
  have HWF := Lib.hid wf
  have HL := Lib.hid hl
  have HS := Lib.hid hs
  clear h hp wf hl h1 h2 h3 hs
  obtain ⟨nw, hnw⟩ : ∃ nw, nw = stepI now t := ⟨_, rfl⟩
  rw [← hnw]
  have hbd := stepI_bd HWF.out t
  rw [← hnw] at hbd
  unfold MT at hbd
  obtain ⟨w0, w1⟩ := hbd
  obtain ⟨n, hn⟩ : ∃ n, n = L.length := ⟨_, rfl⟩
  have HN := Lib.hid hn
  clear hn
  obtain ⟨W0, hW⟩ : ∃ W0, W0 = ((w.alloc (.cells #[.int .i64 nw, .slice a m cap] 60)).alloc (.cells #[.int .i64 0, .slice none 0 0] 60)).alloc (.cells #[] 3) := ⟨_, rfl⟩
  have HG0 := Lib.hid (gs_new HS.out HH.out HP.out hW)
  have HW := Lib.hid hW
  clear hW
  rcases step_cases (now := now) (t := t) n0 n1 with ⟨ht, hst⟩ | ⟨ht, ht2, hst⟩ | ⟨ht, ht2, hst⟩
  all_goals
    have HST := Lib.hid (hnw.trans hst)
    clear hst hnw
    go_enter Try.func33, Try.ntmps33
    go_wp2_with fail
    rw [← HST.out, ← HW.out, ← HS.out]
    clear n0 n1 HST
    go_loopw [6] (fun u wr => GoRel2 base s n w nw L u wr) (fun u _ => n - sliceLen u)
    case atStart => exact ⟨0, _, _, by omega, HG0.out⟩
    case round =>
      obtain ⟨k, v, R2, hk, G⟩ := hrel
      obtain ⟨va, vm, vc, rfl⟩ := G.row.slice
      obtain ⟨b0, b1, r0, r1, fb, fr⟩ := G.ss.facts
      have HG := Lib.hid G
      have hk6 : sliceLen u6 = k := by obtain ⟨_, _, rfl⟩ := own_lit G.out; rfl
      have HK6 := Lib.hid hk6
      clear G hk6 HG0
      by_cases hkn : k < n
      · have hkL : k < L.length := by have := HN.out; omega
        have hd : L.drop k = L[k] :: L.drop (k + 1) := List.drop_eq_getElem_cons hkL
        have hpm := HG.out.perm
        rw [hd] at hpm
        have hsd : (L[k] :: L.drop (k + 1)).Pairwise Lt := by rw [← hd]; exact HWF.out.sorted.drop
        have hlen : R2.length ≤ 100 := by rw [hpm.length_eq, ← hd, List.length_drop]; have := HL.out; omega
        obtain ⟨p, hp⟩ : ∃ p, p = L[k] := ⟨_, rfl⟩
        rw [← hp] at hpm hsd
        have HPM := Lib.hid hpm
        have HSD := Lib.hid hsd
        have HPK := Lib.hid hp
        have hne : R2 ≠ [] := by intro e; rw [e] at hpm; have := hpm.length_eq; simp at this
        have HNX := Lib.hid (rnext_some base nw (.slice va vm vc) R2 wr HG.out.row (by omega) hne)
        clear hd hpm hsd hp hne
        go_wp2_with fail
        refine HNX.out.mono ?_
        rintro e w2 ⟨mm, rfl, hm, hmin, u2⟩
        obtain rfl : mm = p := first_perm HPM.out HSD.out hm hmin
        obtain ⟨p1, p2⟩ := mm
        have hss2 := HG.out.ss.below u2
        obtain ⟨b0, b1, r0, r1, fb, fr⟩ := hss2.facts
        have HU2 := Lib.hid u2
        have hsl := hss2.lt
        have hsl0 : s < w2.heap.size := by omega
        have hsl1 : s + 1 < w2.heap.size := by omega
        clear u2 hm hmin hss2
        by_cases hdue : p1 ≤ nw
        · have hnd : ¬ nw < p1 := by omega
          have HDUE := Lib.hid hdue
          have hb3 : Below wr.heap.size wr ((w2.alloc (.cells #[.int .i64 p2, .int .i64 p1] 75)).alloc (.cells #[.int .i64 p2] 3)) := bel_alloc (bel_alloc HU2.out)
          have hown := own_below HG.out.out hb3
          have HSS3 := Lib.hid (HG.out.ss.below hb3)
          have HR3 := Lib.hid (HG.out.row.below hb3)
          have HOW3 := Lib.hid hown
          have hcl : ∀ (j : Nat) (x : Value), ([.int .i64 p2] : List Value)[j]? = some x → ((w2.alloc (.cells #[.int .i64 p2, .int .i64 p1] 75)).alloc (.cells #[.int .i64 p2] 3)).cell? ((⟨w2.heap.size + 1, 0, none⟩ : Addr).add j) = some x := by
            intro j x hx
            match j, hx with
            | 0, hx => simp at hx; subst hx; simp [go_sem, Addr.add]
          have HCL := Lib.hid hcl
          have HX3 : Hid (((w2.alloc (.cells #[.int .i64 p2, .int .i64 p1] 75)).alloc (.cells #[.int .i64 p2] 3)).heap[w2.heap.size]? = some (.cells #[.int .i64 p2, .int .i64 p1] 75 (0, 0))) := (Below.heap_alloc _ _ _ (by simp)).trans (heap_alloc_new w2 _)
          have HUL : Hid (∀ r, u6.ownBlock = some r → r ≠ w2.heap.size) := fun r e => by have := (own_ge HG.out.out _ e).2; have := HU2.out.size; omega
          have hk100 : k ≤ 100 := by have := HN.out; have := HL.out; omega
          clear hcl hb3 hdue
          go_wp2_with (at_builtin; refine wpList_append_own _ rfl _ _ 27 rfl (s + 2) 3 i0 (.int .i64 0) 1 8 Try.underlying27 hi hz0 hz1 hz2 rfl (by decide) _ _ _ rfl hown ⟨w2.heap.size + 1, 0, none⟩ 1 1 [.int .i64 p2] rfl rfl HCL.out (by simp [Value.oneCell']) (by unfold maxLen; omega) (by omega) (by simp; omega) ?_; intro u' w5 hown' hgrow _; have H5 := Lib.hid (HSS3.out.grownU HOW3.out hgrow); have HR5 := Lib.hid (HR3.out.keep (fun r hr hlt => hgrow.block r hlt (fun e => HR3.out.apart HOW3.out r hr e.symm))); have HO5 := Lib.hid hown'; have x0 : w5.cell? ⟨w2.heap.size, 0, none⟩ = some (.int .i64 p2) := (by have e := (hgrow.block w2.heap.size (by simp; omega) (fun e => HUL.out _ e.symm rfl)).trans HX3.out; simp [World.cell?, e]); obtain ⟨b0, b1, r0, r1, fb, fr⟩ := H5.out.facts; clear hgrow hown hown')
          refine (rdrop_any base nw p2 (.slice va vm vc) R2 w5 HR5.out (by omega)).mono ?_
          rintro e w6 ⟨v3, rfl, hr6, u6'⟩
          obtain ⟨va3, vm3, vc3, rfl⟩ := hr6.slice
          have hss6 := H5.out.below u6'
          have hown6 := own_below HO5.out u6'
          obtain ⟨b0, b1, r0, r1, fb, fr⟩ := hss6.facts
          have H6 := Lib.hid hss6
          have HR6 := Lib.hid hr6
          have HO6 := Lib.hid hown6
          clear hss6 hr6 hown6 u6'
          go_wp2_with fail
          go_roundw
          case rel =>
            have hget : L.getD k (0, 0) = (p1, p2) := by rw [HPK.out]; simp [List.getD, hkL]
            have htk : L.take (k + 1) = L.take k ++ [(p1, p2)] := by rw [List.take_succ_eq_append_getElem hkL, ← HPK.out]
            have h5l := H5.out.lt
            have hbs : base ≤ s := by rw [HS.out]; exact hb
            refine ⟨k + 1, _, dropL R2 p2, by omega, H6.out.put _, ((HR6.out.setCell s 0 _ (by omega)).setCell s 1 _ (by omega)).mono (by omega), fun r hr => by have := (HR6.out.ge r hr).1; omega, ?_, fun j hj => ?_, ?_⟩
            · have h1 := drop_perm HG.out.perm p2
              have h2 := dropL_drop HWF.out.ids hkL
              rw [← HPK.out] at h2
              rw [h2] at h1
              exact h1
            · by_cases hjk : j < k
              · exact HG.out.due j hjk
              · obtain rfl : j = k := by omega
                rw [hget]; exact HDUE.out
            · rw [htk, List.map_append, List.map_append]
              exact own_setCell (own_setCell HO6.out s 0 _ (by omega)) s 1 _ (by omega)
          case measure =>
            obtain ⟨_, _, rfl⟩ := own_lit HO6.out
            have := HK6.out
            show n - (k + 1) < n - sliceLen u6
            omega
        · have hnd : nw < p1 := by omega
          have hget : L.getD k (0, 0) = (p1, p2) := by rw [HPK.out]; simp [List.getD, hkL]
          obtain ⟨e1, e2⟩ := gs_end HS.out (by omega) HG.out HU2.out (fun _ => by rw [hget]; exact hdue) (.cells #[.int .i64 p2, .int .i64 p1] 75)
          have HRUN := Lib.hid (rset_run nw _ e1)
          have HEND := Lib.hid e2
          clear hdue hget e1 e2
          go_wp2_with fail
          (try simp only [Exit.inBlock, Exit.then])
          refine bodyPost_ret (results_row_tmp rfl _ _ (s + 1) _ rfl HRUN.out) rfl ?_
          exact HEND.out
      · obtain rfl : k = n := by omega
        have hR0 : R2 = [] := by
          have := HG.out.perm
          rw [List.drop_of_length_le (by have := HN.out; omega)] at this
          exact this.eq_nil
        subst hR0
        have HNX := Lib.hid (rnext_none base nw (.slice va vm vc) wr HG.out.row)
        go_wp2_with fail
        refine HNX.out.mono ?_
        rintro e w2 ⟨rfl, u2⟩
        have hss2 := HG.out.ss.below u2
        obtain ⟨b0, b1, r0, r1, fb, fr⟩ := hss2.facts
        have hsl := hss2.lt
        have hsl0 : s < w2.heap.size := by omega
        have hsl1 : s + 1 < w2.heap.size := by omega
        obtain ⟨e1, e2⟩ := gs_end HS.out (by have := HN.out; omega) HG.out u2 (fun h => by have := HN.out; omega) (.cells #[.int .i64 0, .int .i64 0] 75)
        have HRUN := Lib.hid (rset_run nw _ e1)
        have HEND := Lib.hid e2
        clear u2 hss2 e1 e2
        go_wp2_with fail
        (try simp only [Exit.inBlock, Exit.then])
        refine bodyPost_ret (results_row_tmp rfl _ _ (s + 1) _ rfl HRUN.out) rfl ?_
        exact HEND.out
end Go.Proofs.Ytndhhpiklaffoaa.Clock
