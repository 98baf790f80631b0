/-
  Contracts of package caret: on behind what was typed, and back.
-/
import Derived.Test.YtlcjiffnmpkndaaCaD
namespace Go.Proofs.Ytlcjiffnmpkndaa.Pl
open Go.RowKit Go.Shelf Base
set_option linter.unusedVariables false
set_option linter.unusedSimpArgs false

def onL (L : List Cl) (cur : Int) : Int :=
  if (atL L (mv L.length cur 1)).st = true then
    if (Attr.prot (atL L (mv L.length cur 1)).b && Attr.nume (atL L (mv L.length cur 1)).b) = true then tabL L (mv L.length cur 1) else mv L.length (mv L.length cur 1) 1
  else mv L.length cur 1
def backC (L : List Cl) (cur : Int) : Int :=
  if befL L cur ≠ cur ∧ goodE L (befL L cur) = true ∧ mv L.length (befL L cur) 1 ≠ cur then mv L.length (befL L cur) 1
  else firstEL L (backP L.length (mv L.length cur (-2)))
section
variable {w : World} {b g : Nat} {r c cur : Int} {L : List Cl}
set_option maxHeartbeats 2000000 in
theorem on_any (h : PlAt w b g r c cur L) (hbo : BoL L) : Calls Try.prog 32 #[.pointer (some ⟨b, 0, none⟩)] w (GoP w b g r c L (onL L cur)) := by
  have hm := h.most
  have hpos := h.pos
  have hn : Hid (cells r c = (L.length : Int)) := Lib.hid h.size
  have HH := Lib.hid h
  have HBO := Lib.hid hbo
  obtain ⟨a, ha⟩ : ∃ a, a = mv L.length cur 1 := ⟨_, rfl⟩
  have hab := mv_bd (n := L.length) (a := cur) (b := 1) (by omega)
  rw [← ha] at hab
  obtain ⟨⟨yb, yg, ys, yl, yc⟩, hy⟩ : ∃ y, y = atL L a := ⟨_, rfl⟩
  have hby := hbo a
  rw [← hy] at hby
  simp only at hby
  obtain ⟨t, ht⟩ : ∃ t, t = tabL L a := ⟨_, rfl⟩
  have htb := tab_bd (L := L) (a := a) hpos
  rw [← ht] at htb
  obtain ⟨m, hmm⟩ : ∃ m, m = mv L.length a 1 := ⟨_, rfl⟩
  have hmb := mv_bd (n := L.length) (a := a) (b := 1) (by omega)
  rw [← hmm] at hmb
  obtain ⟨p, hp⟩ : ∃ p, p = (Attr.prot yb && Attr.nume yb) := ⟨_, rfl⟩
  obtain ⟨y, hyy⟩ : ∃ y, y = onL L cur := ⟨_, rfl⟩
  rw [← hyy]
  have e : y = if ys = true then (if p = true then t else m) else a := by rw [hyy]; unfold onL; rw [← ha, ← hy, ← ht, ← hmm, ← hp]
  have HY := Lib.hid hy
  have HT := Lib.hid ht
  have HA := Lib.hid ha
  have HMM := Lib.hid hmm
  have HP := Lib.hid hp
  have HE := Lib.hid e
  clear h hbo ha hy ht hmm hyy hp e
  go_enter Try.func32, Try.ntmps32
  go_wp2_with fail
  refine (size_any HH.out).mono ?_
  rintro e w1 ⟨rfl, hb1⟩
  obtain ⟨W1, hW1⟩ : ∃ W1, W1 = w1.alloc (.cells #[.int .i64 r, .int .i64 c] 23) := ⟨_, rfl⟩
  have h1 := CzQ.begin HH.out hb1
  rw [← hW1] at h1
  have H1 := Lib.hid h1
  have HW1 := Lib.hid hW1.symm
  clear hb1 h1 hW1
  go_wp2_with fail
  rw [HW1.out]
  go_region_held3 (fun X => X.cell? ⟨w1.heap.size, 0, none⟩ = some (.int .i64 r) ∧ X.cell? ⟨w1.heap.size, 1, none⟩ = some (.int .i64 c) ∧ CzQ w b g r c cur L w1.heap.size X)
    (with_reducible (first | assumption | exact CzQ.q H1.out.drew | exact CzQ.q (by assumption)))
    (first
      | (go_at_call 33; (with_reducible refine (cursor_any (CzQ.pl H1.out.drew)).mono ?_); rintro e w2 ⟨rfl, rfl⟩)
      | (go_at_call 69; (with_reducible refine (move_any r c cur 1 L.length W1.drew hn (by omega) (by omega)).mono ?_); rintro e w2 ⟨he, hb2⟩; rw [← HA.out] at he; subst he; have K2 := CzQ.below H1.out.drew hb2; clear hb2))
  all_goals
    have HK2 := Lib.hid K2
    clear K2
    go_wp2_with fail
    refine (at_any HK2.out.pl a).mono ?_
    rintro e w3 ⟨he, hb3⟩
    rw [← HY.out] at he
    simp only [Cl.val] at he
    subst he
    have K3 := Lib.hid ((HK2.out.below hb3).below (below_alloc w3 (.cells #[.int .u8 yb, .bool yg, .bool ys, .int .u8 yl, .int .u8 yc] 58)))
    have c3 := heap_alloc_new w3 (.cells #[.int .u8 yb, .bool yg, .bool ys, .int .u8 yl, .int .u8 yc] 58)
    obtain ⟨W3, hW3⟩ : ∃ W3, W3 = w3.alloc (.cells #[.int .u8 yb, .bool yg, .bool ys, .int .u8 yl, .int .u8 yc] 58) := ⟨_, rfl⟩
    rw [← hW3] at K3 c3
    have d0 : W3.cell? ⟨w3.heap.size, 0, none⟩ = some (.int .u8 yb) := by simp [World.cell?, c3]
    have d2 : W3.cell? ⟨w3.heap.size, 2, none⟩ = some (.bool ys) := by simp [World.cell?, c3]
    have q0 := K3.out.q.1
    have q1 := K3.out.q.2.1
    have HW3 := Lib.hid hW3.symm
    clear hb3 c3 hW3
    cases ys with
    | false =>
      go_wp2_with fail
      rw [HW3.out]
      go_wp2_with (go_at_call 70; refine (ctpoint_any K3.out.pl a hab).mono ?_; rintro e w5 ⟨rfl, hp, ht⟩)
      go_ret
      rw [show y = a by rw [HE.out]; simp]
      exact GoP.of K3.out.bl rfl hp ht
    | true =>
      cases p with
      | true =>
        go_wp2_with fail
        rw [HW3.out]
        go_wp2_with (first
          | (go_at_call 78; refine (Attr.skip_any yb _ hby.1 hby.2).mono ?_; rintro e w4 ⟨he, rfl⟩; rw [← HP.out] at he; subst he)
          | (go_at_call 71; refine (ctnext_any K3.out.pl HBO.out a).mono ?_; rintro e w5 ⟨he, hb5⟩; rw [← HT.out] at he; subst he; have K5 := Lib.hid (K3.out.below hb5); clear hb5)
          | (go_at_call 70; refine (ctpoint_any K5.out.pl t htb).mono ?_; rintro e w6 ⟨rfl, hp, ht⟩))
        go_ret
        rw [show y = t by rw [HE.out]; simp]
        exact GoP.of K5.out.bl rfl hp ht
      | false =>
        go_wp2_with fail
        rw [HW3.out]
        go_wp2_with (first
          | (go_at_call 78; refine (Attr.skip_any yb _ hby.1 hby.2).mono ?_; rintro e w4 ⟨he, rfl⟩; rw [← HP.out] at he; subst he)
          | (go_at_call 69; refine (move_any r c a 1 L.length _ hn (by omega) (by omega)).mono ?_; rintro e w5 ⟨he, hb5⟩; rw [← HMM.out] at he; subst he; have K5 := Lib.hid (K3.out.below hb5); clear hb5)
          | (go_at_call 70; refine (ctpoint_any K5.out.pl m hmb).mono ?_; rintro e w6 ⟨rfl, hp, ht⟩))
        go_ret
        rw [show y = m by rw [HE.out]; simp]
        exact GoP.of K5.out.bl rfl hp ht
set_option maxHeartbeats 4000000 in
theorem back_cany (h : PlAt w b g r c cur L) (hbo : BoL L) : Calls Try.prog 29 #[.pointer (some ⟨b, 0, none⟩)] w (GoP w b g r c L (backC L cur)) := by
  have hm := h.most
  have hpos := h.pos
  have hn : Hid (cells r c = (L.length : Int)) := Lib.hid h.size
  have HH := Lib.hid h
  have HBO := Lib.hid hbo
  obtain ⟨z, hz⟩ : ∃ z, z = befL L cur := ⟨_, rfl⟩
  obtain ⟨m, hmm⟩ : ∃ m, m = mv L.length cur (-2) := ⟨_, rfl⟩
  obtain ⟨t, ht⟩ : ∃ t, t = firstEL L (backP L.length m) := ⟨_, rfl⟩
  have htb := firstEL_bd (L := L) (xs := backP L.length m) hpos
  rw [← ht] at htb
  obtain ⟨gd, hg⟩ : ∃ gd, gd = goodE L z := ⟨_, rfl⟩
  obtain ⟨v, hv⟩ : ∃ v, v = entV L z := ⟨_, rfl⟩
  obtain ⟨y, hyy⟩ : ∃ y, y = backC L cur := ⟨_, rfl⟩
  rw [← hyy]
  have hvg : gd = true → v = mv L.length z 1 := by intro h; rw [hv]; unfold entV; rw [← hg, if_pos h]
  have hvb : gd = true → 0 ≤ v ∧ v < L.length := by intro h; rw [hvg h]; exact mv_bd (by omega)
  have HE : Hid (y = if z ≠ cur ∧ gd = true ∧ mv L.length z 1 ≠ cur then mv L.length z 1 else t) := Lib.hid (by rw [hyy]; unfold backC; rw [← hz, ← hmm, ← ht, ← hg])
  have HZ := Lib.hid hz
  have HM := Lib.hid hmm
  have HT := Lib.hid ht
  have HG := Lib.hid hg
  have HV := Lib.hid hv
  have HVG := Lib.hid hvg
  have HVB := Lib.hid hvb
  clear h hbo hz hmm ht hg hv hyy hvg hvb
  by_cases hzc : z = cur
  · have HY := Lib.hid (show y = t by rw [HE.out, if_neg (fun h => h.1 hzc)])
    have hz1 : (z != cur) = false := by rw [hzc]; simp
    clear hzc
    go_enter Try.func29, Try.ntmps29
    go_wp2_with (first
      | (go_at_call 33; refine (cursor_any HH.out).mono ?_; rintro e w0 ⟨rfl, rfl⟩)
      | (go_at_call 72; refine (before_any HH.out cur).mono ?_; rintro e w1 ⟨he, hb1⟩; rw [← HZ.out] at he; subst he; have H1 := Lib.hid (HH.out.below hb1); have B1 := Lib.hid hb1; clear hb1)
      | (go_at_call 68; refine (size_any H1.out).mono ?_; rintro e w3 ⟨rfl, hb3⟩; have H3 := Lib.hid (H1.out.below hb3); have B3 := Lib.hid (B1.out.trans (hb3.mono B1.out.size)); clear hb3)
      | (go_at_call 69; refine (move_any r c cur (-2) L.length _ hn (by omega) (by omega)).mono ?_; rintro e w4 ⟨he, hb4⟩; rw [← HM.out] at he; subst he; have H4 := Lib.hid (H3.out.below hb4); have B4 := Lib.hid (B3.out.trans (hb4.mono B3.out.size)); clear hb4)
      | (go_at_call 75; refine (cback_any _ b m).mono ?_; rintro e w5 ⟨rfl, hI, hb5, hs5⟩; have H5 := Lib.hid (H4.out.below hb5); have B5 := Lib.hid (B4.out.trans (hb5.mono B4.out.size)); have HSQ := Lib.hid (cback_seq 2 (by omega) _ _ b L.length r c m w5 (by omega) hI); have HS5 := Lib.hid hs5; clear hI hb5 hs5)
      | (go_at_call 74; refine (callsIn_wide.1 (firstEntry_any H5.out HBO.out (xs := backP L.length m) (enters_of Try.func110 (by kernel_rfl) rfl) (kpOk2 (by have := HS5.out; omega)) (fun _ _ h => h.s) HSQ.out)).mono ?_; rintro e w6 ⟨he, hb6⟩; rw [← HT.out] at he; subst he; have H6 := Lib.hid (H5.out.below hb6); have B6 := Lib.hid (B5.out.trans (hb6.mono B5.out.size)); clear hb6)
      | (go_at_call 70; refine (ctpoint_any H6.out t htb).mono ?_; rintro e w7 ⟨rfl, hp, ht⟩))
    go_ret
    rw [HY.out]
    exact GoP.of B6.out rfl hp ht
  · have hz1 : (z != cur) = true := by simpa using hzc
    cases gd with
    | false =>
      have HY := Lib.hid (show y = t by rw [HE.out, if_neg (fun h => by cases h.2.1)])
      clear hzc
      go_enter Try.func29, Try.ntmps29
      go_wp2_with (first
      | (go_at_call 33; refine (cursor_any HH.out).mono ?_; rintro e w0 ⟨rfl, rfl⟩)
      | (go_at_call 72; refine (before_any HH.out cur).mono ?_; rintro e w1 ⟨he, hb1⟩; rw [← HZ.out] at he; subst he; have H1 := Lib.hid (HH.out.below hb1); have B1 := Lib.hid hb1; clear hb1)
      | (go_at_call 73; refine (entry_any H1.out z HBO.out).mono ?_; rintro e w2 ⟨he, hb2⟩; rw [← HG.out, ← HV.out] at he; subst he; have H2 := Lib.hid (H1.out.below hb2); have B2 := Lib.hid (B1.out.trans (hb2.mono B1.out.size)); clear hb2)
      | (go_at_call 68; refine (size_any H2.out).mono ?_; rintro e w3 ⟨rfl, hb3⟩; have H3 := Lib.hid (H2.out.below hb3); have B3 := Lib.hid (B2.out.trans (hb3.mono B2.out.size)); clear hb3)
      | (go_at_call 69; refine (move_any r c cur (-2) L.length _ hn (by omega) (by omega)).mono ?_; rintro e w4 ⟨he, hb4⟩; rw [← HM.out] at he; subst he; have H4 := Lib.hid (H3.out.below hb4); have B4 := Lib.hid (B3.out.trans (hb4.mono B3.out.size)); clear hb4)
      | (go_at_call 75; refine (cback_any _ b m).mono ?_; rintro e w5 ⟨rfl, hI, hb5, hs5⟩; have H5 := Lib.hid (H4.out.below hb5); have B5 := Lib.hid (B4.out.trans (hb5.mono B4.out.size)); have HSQ := Lib.hid (cback_seq 2 (by omega) _ _ b L.length r c m w5 (by omega) hI); have HS5 := Lib.hid hs5; clear hI hb5 hs5)
      | (go_at_call 74; refine (callsIn_wide.1 (firstEntry_any H5.out HBO.out (xs := backP L.length m) (enters_of Try.func110 (by kernel_rfl) rfl) (kpOk2 (by have := HS5.out; omega)) (fun _ _ h => h.s) HSQ.out)).mono ?_; rintro e w6 ⟨he, hb6⟩; rw [← HT.out] at he; subst he; have H6 := Lib.hid (H5.out.below hb6); have B6 := Lib.hid (B5.out.trans (hb6.mono B5.out.size)); clear hb6)
      | (go_at_call 70; refine (ctpoint_any H6.out t htb).mono ?_; rintro e w7 ⟨rfl, hp, ht⟩))
      go_ret
      rw [HY.out]
      exact GoP.of B6.out rfl hp ht
    | true =>
      have hvb := HVB.out rfl
      have hvm := HVG.out rfl
      by_cases hvc : v = cur
      · have HY := Lib.hid (show y = t by rw [HE.out, if_neg (fun h => h.2.2 (by rw [← hvm]; exact hvc))])
        have hv1 : (v != cur) = false := by rw [hvc]; simp
        clear hzc hvc hvm
        go_enter Try.func29, Try.ntmps29
        go_wp2_with (first
      | (go_at_call 33; refine (cursor_any HH.out).mono ?_; rintro e w0 ⟨rfl, rfl⟩)
      | (go_at_call 72; refine (before_any HH.out cur).mono ?_; rintro e w1 ⟨he, hb1⟩; rw [← HZ.out] at he; subst he; have H1 := Lib.hid (HH.out.below hb1); have B1 := Lib.hid hb1; clear hb1)
      | (go_at_call 73; refine (entry_any H1.out z HBO.out).mono ?_; rintro e w2 ⟨he, hb2⟩; rw [← HG.out, ← HV.out] at he; subst he; have H2 := Lib.hid (H1.out.below hb2); have B2 := Lib.hid (B1.out.trans (hb2.mono B1.out.size)); clear hb2)
      | (go_at_call 68; refine (size_any H2.out).mono ?_; rintro e w3 ⟨rfl, hb3⟩; have H3 := Lib.hid (H2.out.below hb3); have B3 := Lib.hid (B2.out.trans (hb3.mono B2.out.size)); clear hb3)
      | (go_at_call 69; refine (move_any r c cur (-2) L.length _ hn (by omega) (by omega)).mono ?_; rintro e w4 ⟨he, hb4⟩; rw [← HM.out] at he; subst he; have H4 := Lib.hid (H3.out.below hb4); have B4 := Lib.hid (B3.out.trans (hb4.mono B3.out.size)); clear hb4)
      | (go_at_call 75; refine (cback_any _ b m).mono ?_; rintro e w5 ⟨rfl, hI, hb5, hs5⟩; have H5 := Lib.hid (H4.out.below hb5); have B5 := Lib.hid (B4.out.trans (hb5.mono B4.out.size)); have HSQ := Lib.hid (cback_seq 2 (by omega) _ _ b L.length r c m w5 (by omega) hI); have HS5 := Lib.hid hs5; clear hI hb5 hs5)
      | (go_at_call 74; refine (callsIn_wide.1 (firstEntry_any H5.out HBO.out (xs := backP L.length m) (enters_of Try.func110 (by kernel_rfl) rfl) (kpOk2 (by have := HS5.out; omega)) (fun _ _ h => h.s) HSQ.out)).mono ?_; rintro e w6 ⟨he, hb6⟩; rw [← HT.out] at he; subst he; have H6 := Lib.hid (H5.out.below hb6); have B6 := Lib.hid (B5.out.trans (hb6.mono B5.out.size)); clear hb6)
      | (go_at_call 70; refine (ctpoint_any H6.out t htb).mono ?_; rintro e w7 ⟨rfl, hp, ht⟩))
        go_ret
        rw [HY.out]
        exact GoP.of B6.out rfl hp ht
      · have HY := Lib.hid (show y = v by rw [HE.out, if_pos ⟨hzc, rfl, by rw [← hvm]; exact hvc⟩, hvm])
        have hv1 : (v != cur) = true := by simpa using hvc
        clear hzc hvc hvm
        go_enter Try.func29, Try.ntmps29
        go_wp2_with (first
          | (go_at_call 33; refine (cursor_any HH.out).mono ?_; rintro e w0 ⟨rfl, rfl⟩)
          | (go_at_call 72; refine (before_any HH.out cur).mono ?_; rintro e w1 ⟨he, hb1⟩; rw [← HZ.out] at he; subst he; have H1 := Lib.hid (HH.out.below hb1); have B1 := Lib.hid hb1; clear hb1)
          | (go_at_call 73; refine (entry_any H1.out z HBO.out).mono ?_; rintro e w2 ⟨he, hb2⟩; rw [← HG.out, ← HV.out] at he; subst he; have H2 := Lib.hid (H1.out.below hb2); have B2 := Lib.hid (B1.out.trans (hb2.mono B1.out.size)); clear hb2)
          | (go_at_call 70; refine (ctpoint_any H2.out v hvb).mono ?_; rintro e w7 ⟨rfl, hp, ht⟩))
        go_ret
        rw [HY.out]
        exact GoP.of B2.out rfl hp ht
end
end Go.Proofs.Ytlcjiffnmpkndaa.Pl
