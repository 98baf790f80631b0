/-
  The walk of IacEscapes.
-/
import Derived.Test.YtgjdfhfaikdaaaaEscPlain
import Derived.Test.YtgjdfhfaikdaaaaAsA
import Derived.Test.YtgjdfhfaikdaaaaOpenE
namespace Go.Proofs.Ytgjdfhfaikdaaaa.Iac
open Go.RowKit Base
set_option linter.unusedVariables false

def Alive5 : Prop := ∀ w : World, Calls Try.prog 15 #[] w fun e W' => e = .returned (.bool true) ∧ Below w.heap.size w W'
theorem open_at {w : World} {n b : Nat} {D : Dec} (h : DecAt w b D) (h0 : D.state = 0) : Calls Try.prog 20 #[.pointer (some ⟨b, 0, none⟩)] (w.drewN n) fun e w' => e = .returned (.bool false) ∧ ∃ m, w' = w.drewN m :=
  (open_any (h.kept (w' := w.drewN n) rfl)).mono fun e w' ⟨he, hw⟩ => ⟨by rw [he, h0]; rfl, n, hw.symm⟩
theorem RowOf.takeTo {w : World} {a : Option Addr} {n c : Nat} {L : List Int} (h : RowOf .u8 w (.slice a n c) L) (m : Nat) (hm : m ≤ L.length) : RowOf .u8 w (.slice a m c) (L.take m) := by
  obtain ⟨a', c', e', hr⟩ := h
  injection e' with e1 e2 e3
  subst e1 e3
  have hl : (L.take m).length = m := by rw [List.length_take]; omega
  refine ⟨a, c, by rw [hl], fun hne => ?_⟩
  obtain ⟨b, off, ha, hc⟩ := hr (by intro e; rw [e] at hne; simp at hne)
  refine ⟨b, off, ha, fun i hi => ?_⟩
  rw [hl] at hi
  rw [hc i (by omega), List.getElem?_take_of_lt hi]
/-- What the walk holds: the bytes, the three decoders. -/
structure EC (w : World) (d : Nat) (v : Value) (L : List Int) (D1 D2 D3 : Dec) (W : World) : Prop where
  row : RowIn (fun k => k < d) .u8 W v L
  d1 : DecAt W d D1
  d2 : DecAt W (d + 1) D2
  d3 : DecAt W (d + 2) D3
  old : Below w.heap.size w W
  lo : w.heap.size ≤ d
section
variable {w W W' : World} {d : Nat} {v : Value} {L : List Int} {D1 D2 D3 D : Dec}
theorem EC.lt (h : EC w d v L D1 D2 D3 W) : d + 2 < W.heap.size := h.d3.lt
theorem EC.below (h : EC w d v L D1 D2 D3 W) (t : Below W.heap.size W W') : EC w d v L D1 D2 D3 W' :=
  ⟨h.row.below t, h.d1.below t, h.d2.below t, h.d3.below t, h.old.trans (t.mono h.old.size), h.lo⟩
theorem EC.drewN (h : EC w d v L D1 D2 D3 W) (n : Nat) : EC w d v L D1 D2 D3 (W.drewN n) := h.below ⟨rfl, rfl, rfl, Nat.le_refl _, fun _ _ => rfl⟩
theorem EC.turn1 (h : EC w d v L D1 D2 D3 W) (t : Turn (fun k => k = d ∨ W.heap.size ≤ k) W W') (hd : DecAt W' d D) : EC w d v L D D2 D3 W' := by
  have := h.lt; have := h.lo
  exact ⟨h.row.turn t fun b hb => by omega, hd, h.d2.turn t (by omega), h.d3.turn t (by omega), h.old.trans (t.below h.old.size fun k hk => by omega), h.lo⟩
theorem EC.turn2 (h : EC w d v L D1 D2 D3 W) (t : Turn (fun k => k = d + 1 ∨ W.heap.size ≤ k) W W') (hd : DecAt W' (d + 1) D) : EC w d v L D1 D D3 W' := by
  have := h.lt; have := h.lo
  exact ⟨h.row.turn t fun b hb => by omega, h.d1.turn t (by omega), hd, h.d3.turn t (by omega), h.old.trans (t.below h.old.size fun k hk => by omega), h.lo⟩
theorem EC.turn3 (h : EC w d v L D1 D2 D3 W) (t : Turn (fun k => k = d + 2 ∨ W.heap.size ≤ k) W W') (hd : DecAt W' (d + 2) D) : EC w d v L D1 D2 D W' := by
  have := h.lt; have := h.lo
  exact ⟨h.row.turn t fun b hb => by omega, h.d1.turn t (by omega), h.d2.turn t (by omega), hd, h.old.trans (t.below h.old.size fun k hk => by omega), h.lo⟩
end
theorem ec_new (w W1 : World) (v : Value) (L : List Int) (hr : RowOf .u8 w v L) (hb : Below w.heap.size w W1) : EC w W1.heap.size v L dec0 dec0 dec0 (((W1.alloc (.cells zdec 29)).alloc (.cells zdec 29)).alloc (.cells zdec 29)) := by
  have b1 := below_alloc W1 (.cells zdec 29)
  have b2 := below_alloc (W1.alloc (.cells zdec 29)) (.cells zdec 29)
  have b3 := below_alloc ((W1.alloc (.cells zdec 29)).alloc (.cells zdec 29)) (.cells zdec 29)
  have s1 := World.size_alloc W1 (.cells zdec 29)
  have s2 := World.size_alloc (W1.alloc (.cells zdec 29)) (.cells zdec 29)
  have d2 := dec_new (W1.alloc (.cells zdec 29))
  have d3 := dec_new ((W1.alloc (.cells zdec 29)).alloc (.cells zdec 29))
  have hlo := hb.size
  rw [s1] at d2
  rw [s2, s1] at d3
  have hrow : RowIn (fun k => k < W1.heap.size) .u8 W1 v L := (hr.below hb).lowK
  exact ⟨((hrow.below b1).below b2).below b3, ((dec_new W1).below b2).below b3, d2.below b3, d3, ((hb.trans (b1.mono hlo)).trans (b2.mono (by omega))).trans (b3.mono (by omega)), hlo⟩
theorem map2 {P : List EvP} {a b : Ev} (h : P.map (·.1) = [a, b]) : ∃ u v, P = [(a, u), (b, v)] := by
  match P, h with
  | [(x, u), (y, v)], h => simp at h; obtain ⟨rfl, rfl⟩ := h; exact ⟨u, v, rfl⟩
theorem tell_le (o : Int) (L : List Int) (h : L.length ≤ 400) : (tellL o L).length ≤ 40000 := by
  unfold tellL
  have h1 := escL_le [o]
  have h2 := escL_le L
  simp only [List.length_append, List.length_cons, List.length_nil] at h1 h2 ⊢
  omega
set_option maxRecDepth 100000 in
set_option maxHeartbeats 2000000 in
theorem iacEscapes_law (HAL : Alive5) {w : World} (v : Value) (L : List Int) (hL : Open.BytesAt w v L ∧ L.length ≤ maxLen ∧ ∀ n ∈ L, Open.Byte n) (o : Int) (ho : (Lit.int .u8 o).wf = true) :
    Calls Try.prog 6 #[v, .int .u8 o] w fun e W' => e = .returned (.bool true) ∧ Below w.heap.size w W' := by
  obtain ⟨⟨hr, av, cv, hv, hcap⟩, hl, _⟩ := hL
  have hz := (zero_of_info info_dec).1
  have HR := Lib.hid hr
  obtain ⟨a, cap, rfl, hrow⟩ := hr
  obtain ⟨rfl, rfl⟩ : a = av ∧ cap = cv := by injection hv with h1 _ h2; exact ⟨h1, h2⟩
  obtain ⟨n, hn⟩ : ∃ n, n = L.length := ⟨_, rfl⟩
  have HN := Lib.hid hn
  unfold maxLen at hl
  rw [← hn] at HR hl hcap ⊢
  have hcapi : (n : Int) ≤ cap := by omega
  clear hn ho hv
  by_cases hbig : 400 < n
  · have hbig' : (400 : Int) < n := by omega
    clear hrow HR
    go_enter Try.func6, Try.ntmps6
    go_wp2_with fail
    refine (HAL w).mono ?_
    rintro e W1 ⟨rfl, b1⟩
    go_wp2
    go_ret
    exact ⟨rfl, b1⟩
  have hsm : (n : Int) ≤ 400 := by omega
  have HLM : Hid (L.length ≤ 100000) := Lib.hid (by have := HN.out; omega)
  have HLM2 : Hid (L.length ≤ 400) := Lib.hid (by have := HN.out; omega)
  by_cases h0 : n = 0
  · have hL0 : L = [] := List.eq_nil_of_length_eq_zero (by rw [← HN.out]; exact h0)
    have HDL : Hid (dataL L = []) := Lib.hid (by rw [hL0]; rfl)
    have HSUB : Hid (subE o L = ⟨5, 0, o, L.take 256⟩) := Lib.hid (by rw [hL0]; rfl)
    have HTK : Hid (L.take 0 = L.take 256) := Lib.hid (by rw [hL0]; rfl)
    subst h0
    clear hrow hL0 hbig
    rcases a with _ | ad
    · go_enter Try.func6, Try.ntmps6
      go_wp2_with fail
      refine (HAL w).mono ?_
      rintro e W1 ⟨rfl, b1⟩
      have hec := ec_new w W1 _ L HR.out b1
      obtain ⟨d, hd⟩ : ∃ d, d = W1.heap.size := ⟨_, rfl⟩
      obtain ⟨W2, hW2⟩ : ∃ W2, W2 = ((W1.alloc (.cells zdec 29)).alloc (.cells zdec 29)).alloc (.cells zdec 29) := ⟨_, rfl⟩
      rw [← hd, ← hW2] at hec
      have HEC2 := Lib.hid hec
      have HW2 := Lib.hid hW2.symm
      have HDD := Lib.hid hd.symm
      clear b1 hec hW2 hd
      go_upto_region 6 with fail
      rw [HW2.out, HDD.out]
      go_wp2_with fail
      refine (escape_any _ L W2 HEC2.out.row.row HLM.out).mono ?_
      rintro e W3 ⟨p3, rfl, R3, b3⟩
      have HEC3 := Lib.hid (HEC2.out.below b3)
      have HR3 := Lib.hid R3
      have hlt2 := HEC2.out.lt
      clear R3 b3
      go_wp2_with fail
      refine (feed_any d dec0 _ (escL L) W3 HEC3.out.d1 (by simp [dec0]) (HR3.out.rowIn.mono fun k hk => by omega) (Nat.le_trans (escL_le L) (by have := HLM.out; have := HN.out; omega))).mono ?_
      rw [feed_esc, HDL.out]
      rintro e W4 ⟨v4, P4, rfl, hD4, hE4, hP4, hT4⟩
      have HEC4 := Lib.hid (HEC3.out.turn1 hT4 hD4)
      obtain rfl : P4 = [] := List.map_eq_nil_iff.1 hP4
      obtain ⟨a4, c4, rfl⟩ := hE4.form
      rw [show ([] : List EvP).length = 0 from rfl]
      clear hD4 hE4 hP4 hT4 HR3 HEC3 HEC2 hlt2 HW2
      go_wp2_with fail
      refine (record_any _ L W4 HEC4.out.row.row HLM.out).mono ?_
      rintro e W6 ⟨p6, rfl, R6, b6⟩
      have HEC6 := Lib.hid (HEC4.out.below b6)
      have hlt4 := HEC4.out.lt
      have HR6 := Lib.hid R6
      clear R6 b6
      go_wp2_with fail
      refine (feed_any (d + 1) dec0 _ (escL L ++ [255, 239]) W6 HEC6.out.d2 (by simp [dec0]) (HR6.out.rowIn.mono fun k hk => by omega) (by rw [List.length_append]; have := escL_le L; have := HLM.out; have := HN.out; simp; omega)).mono ?_
      rw [feed_record, HDL.out]
      rintro e W7 ⟨v7, P7, rfl, hD7, hE7, hP7, hT7⟩
      have HEC7 := Lib.hid (HEC6.out.turn2 hT7 hD7)
      obtain ⟨u7, rfl⟩ := map1 hP7
      obtain ⟨g7, c7, rfl, _, _, k0, _⟩ := hE7.get (i := 0) (p := (⟨2, 0, 0, []⟩, u7)) rfl
      simp only [Nat.zero_mul] at k0
      rw [show ([((⟨2, 0, 0, []⟩ : Ev), u7)] : List EvP).length = 1 from rfl]
      clear hD7 hE7 hP7 hT7 HR6 HEC6 HEC4 hlt4
      go_wp2_with fail
      refine (tell_any o _ L W7 HEC7.out.row.row HLM.out).mono ?_
      rintro e W8 ⟨p8, rfl, R8, b8⟩
      have HEC8 := Lib.hid (HEC7.out.below b8)
      have hlt7 := HEC7.out.lt
      have HR8 := Lib.hid R8
      clear R8 b8 k0
      go_wp2_with fail
      refine (feed_any (d + 2) dec0 _ (tellL o L) W8 HEC8.out.d3 (by simp [dec0]) (HR8.out.rowIn.mono fun k hk => by omega) (tell_le o L HLM2.out)).mono ?_
      rw [feed_tell, HSUB.out]
      rintro e W9 ⟨v9, P9, rfl, hD9, hE9, hP9, hT9⟩
      have HEC9 := Lib.hid (HEC8.out.turn3 hT9 hD9)
      obtain ⟨u9, rfl⟩ := map1 hP9
      obtain ⟨g9, c9, rfl, _, _, k0, _, k2, k3, _⟩ := hE9.get (i := 0) (p := (⟨5, 0, o, L.take 256⟩, u9)) rfl
      have hu9 := (hE9.own (⟨5, 0, o, L.take 256⟩, u9) (by simp)).row
      simp only [Nat.zero_mul, Nat.zero_add] at k0 k2 k3
      rw [show ([((⟨5, 0, o, L.take 256⟩ : Ev), u9)] : List EvP).length = 1 from rfl]
      have HU9 := Lib.hid hu9
      clear hD9 hE9 hP9 hT9 HR8 HEC8 HEC7 hlt7 hu9
      have hrow9 : RowOf .u8 W9 (.slice none 0 cap) (L.take 256) := by
        have := RowOf.takeTo HEC9.out.row.row 0 (by have := HN.out; omega)
        rw [HTK.out] at this
        exact this
      have HROW9 := Lib.hid hrow9
      clear hrow9
      go_wp2_with fail
      go_quiet (first
        | (go_at_call 21; exact same_at HU9.out HROW9.out (by rw [List.length_take]; unfold maxLen; omega))
        | (go_at_call 20; first | exact open_at HEC9.out.d1 rfl | exact open_at HEC9.out.d2 rfl | exact open_at HEC9.out.d3 rfl))
      go_wp2
      go_ret
      exact ⟨rfl, below_drewN HEC9.out.old _⟩
    · go_enter Try.func6, Try.ntmps6
      go_wp2_with fail
      refine (HAL w).mono ?_
      rintro e W1 ⟨rfl, b1⟩
      have hec := ec_new w W1 _ L HR.out b1
      obtain ⟨d, hd⟩ : ∃ d, d = W1.heap.size := ⟨_, rfl⟩
      obtain ⟨W2, hW2⟩ : ∃ W2, W2 = ((W1.alloc (.cells zdec 29)).alloc (.cells zdec 29)).alloc (.cells zdec 29) := ⟨_, rfl⟩
      rw [← hd, ← hW2] at hec
      have HEC2 := Lib.hid hec
      have HW2 := Lib.hid hW2.symm
      have HDD := Lib.hid hd.symm
      clear b1 hec hW2 hd
      go_upto_region 6 with fail
      rw [HW2.out, HDD.out]
      go_wp2_with fail
      refine (escape_any _ L W2 HEC2.out.row.row HLM.out).mono ?_
      rintro e W3 ⟨p3, rfl, R3, b3⟩
      have HEC3 := Lib.hid (HEC2.out.below b3)
      have HR3 := Lib.hid R3
      have hlt2 := HEC2.out.lt
      clear R3 b3
      go_wp2_with fail
      refine (feed_any d dec0 _ (escL L) W3 HEC3.out.d1 (by simp [dec0]) (HR3.out.rowIn.mono fun k hk => by omega) (Nat.le_trans (escL_le L) (by have := HLM.out; have := HN.out; omega))).mono ?_
      rw [feed_esc, HDL.out]
      rintro e W4 ⟨v4, P4, rfl, hD4, hE4, hP4, hT4⟩
      have HEC4 := Lib.hid (HEC3.out.turn1 hT4 hD4)
      obtain rfl : P4 = [] := List.map_eq_nil_iff.1 hP4
      obtain ⟨a4, c4, rfl⟩ := hE4.form
      rw [show ([] : List EvP).length = 0 from rfl]
      clear hD4 hE4 hP4 hT4 HR3 HEC3 HEC2 hlt2 HW2
      go_wp2_with fail
      refine (record_any _ L W4 HEC4.out.row.row HLM.out).mono ?_
      rintro e W6 ⟨p6, rfl, R6, b6⟩
      have HEC6 := Lib.hid (HEC4.out.below b6)
      have hlt4 := HEC4.out.lt
      have HR6 := Lib.hid R6
      clear R6 b6
      go_wp2_with fail
      refine (feed_any (d + 1) dec0 _ (escL L ++ [255, 239]) W6 HEC6.out.d2 (by simp [dec0]) (HR6.out.rowIn.mono fun k hk => by omega) (by rw [List.length_append]; have := escL_le L; have := HLM.out; have := HN.out; simp; omega)).mono ?_
      rw [feed_record, HDL.out]
      rintro e W7 ⟨v7, P7, rfl, hD7, hE7, hP7, hT7⟩
      have HEC7 := Lib.hid (HEC6.out.turn2 hT7 hD7)
      obtain ⟨u7, rfl⟩ := map1 hP7
      obtain ⟨g7, c7, rfl, _, _, k0, _⟩ := hE7.get (i := 0) (p := (⟨2, 0, 0, []⟩, u7)) rfl
      simp only [Nat.zero_mul] at k0
      rw [show ([((⟨2, 0, 0, []⟩ : Ev), u7)] : List EvP).length = 1 from rfl]
      clear hD7 hE7 hP7 hT7 HR6 HEC6 HEC4 hlt4
      go_wp2_with fail
      refine (tell_any o _ L W7 HEC7.out.row.row HLM.out).mono ?_
      rintro e W8 ⟨p8, rfl, R8, b8⟩
      have HEC8 := Lib.hid (HEC7.out.below b8)
      have hlt7 := HEC7.out.lt
      have HR8 := Lib.hid R8
      clear R8 b8 k0
      go_wp2_with fail
      refine (feed_any (d + 2) dec0 _ (tellL o L) W8 HEC8.out.d3 (by simp [dec0]) (HR8.out.rowIn.mono fun k hk => by omega) (tell_le o L HLM2.out)).mono ?_
      rw [feed_tell, HSUB.out]
      rintro e W9 ⟨v9, P9, rfl, hD9, hE9, hP9, hT9⟩
      have HEC9 := Lib.hid (HEC8.out.turn3 hT9 hD9)
      obtain ⟨u9, rfl⟩ := map1 hP9
      obtain ⟨g9, c9, rfl, _, _, k0, _, k2, k3, _⟩ := hE9.get (i := 0) (p := (⟨5, 0, o, L.take 256⟩, u9)) rfl
      have hu9 := (hE9.own (⟨5, 0, o, L.take 256⟩, u9) (by simp)).row
      simp only [Nat.zero_mul, Nat.zero_add] at k0 k2 k3
      rw [show ([((⟨5, 0, o, L.take 256⟩ : Ev), u9)] : List EvP).length = 1 from rfl]
      have HU9 := Lib.hid hu9
      clear hD9 hE9 hP9 hT9 HR8 HEC8 HEC7 hlt7 hu9
      have hrow9 : RowOf .u8 W9 (.slice (some ad) 0 cap) (L.take 256) := by
        have := RowOf.takeTo HEC9.out.row.row 0 (by have := HN.out; omega)
        rw [HTK.out] at this
        exact this
      have HROW9 := Lib.hid hrow9
      clear hrow9
      go_wp2_with fail
      go_quiet (first
        | (go_at_call 21; exact same_at HU9.out HROW9.out (by rw [List.length_take]; unfold maxLen; omega))
        | (go_at_call 20; first | exact open_at HEC9.out.d1 rfl | exact open_at HEC9.out.d2 rfl | exact open_at HEC9.out.d3 rfl))
      go_wp2
      go_ret
      exact ⟨rfl, below_drewN HEC9.out.old _⟩
  · have hne : L ≠ [] := by intro e; rw [e] at HN; exact h0 HN.out
    obtain ⟨g, off, rfl, _⟩ := hrow hne
    have hn1 : 1 ≤ n := by omega
    have hn2 : 0 < n := by omega
    have hn1' : (1 : Int) ≤ n := by omega
    have hn0 : (0 : Int) < n := by omega
    have HDL : Hid (dataL L = [⟨1, 0, 0, L⟩]) := Lib.hid (by unfold dataL; rw [if_neg hne])
    clear hrow hne h0 hbig
    by_cases h256 : 256 < n
    · have hb1 : (256 : Int) < n := by omega
      have HSUB : Hid (subE o L = ⟨6, 0, o, L.take 256⟩) := Lib.hid (by unfold subE; rw [if_pos (by have := HN.out; omega)])
      have HTK : Hid (L.take 256 = L.take 256) := Lib.hid rfl
      go_enter Try.func6, Try.ntmps6
      go_wp2_with fail
      refine (HAL w).mono ?_
      rintro e W1 ⟨rfl, b1⟩
      have hec := ec_new w W1 _ L HR.out b1
      obtain ⟨d, hd⟩ : ∃ d, d = W1.heap.size := ⟨_, rfl⟩
      obtain ⟨W2, hW2⟩ : ∃ W2, W2 = ((W1.alloc (.cells zdec 29)).alloc (.cells zdec 29)).alloc (.cells zdec 29) := ⟨_, rfl⟩
      rw [← hd, ← hW2] at hec
      have HEC2 := Lib.hid hec
      have HW2 := Lib.hid hW2.symm
      have HDD := Lib.hid hd.symm
      clear b1 hec hW2 hd
      go_upto_region 6 with fail
      rw [HW2.out, HDD.out]
      go_wp2_with fail
      refine (escape_any _ L W2 HEC2.out.row.row HLM.out).mono ?_
      rintro e W3 ⟨p3, rfl, R3, b3⟩
      have HEC3 := Lib.hid (HEC2.out.below b3)
      have HR3 := Lib.hid R3
      have hlt2 := HEC2.out.lt
      clear R3 b3
      go_wp2_with fail
      refine (feed_any d dec0 _ (escL L) W3 HEC3.out.d1 (by simp [dec0]) (HR3.out.rowIn.mono fun k hk => by omega) (Nat.le_trans (escL_le L) (by have := HLM.out; have := HN.out; omega))).mono ?_
      rw [feed_esc, HDL.out]
      rintro e W4 ⟨v4, P4, rfl, hD4, hE4, hP4, hT4⟩
      have HEC4 := Lib.hid (HEC3.out.turn1 hT4 hD4)
      obtain ⟨u4, rfl⟩ := map1 hP4
      obtain ⟨g4, c4, rfl, _, _, k0, _, _, k3, _⟩ := hE4.get (i := 0) (p := (⟨1, 0, 0, L⟩, u4)) rfl
      have hu4 := (hE4.own (⟨1, 0, 0, L⟩, u4) (by simp)).row
      simp only [Nat.zero_mul, Nat.zero_add] at k0 k3
      rw [show ([((⟨1, 0, 0, L⟩ : Ev), u4)] : List EvP).length = 1 from rfl]
      have HU4 := Lib.hid hu4
      clear hD4 hE4 hP4 hT4 HR3 HEC3 HEC2 hlt2 HW2 hu4
      go_wp2_with fail
      refine (same_true _ _ L W4 HU4.out HEC4.out.row.row (by have := HLM.out; unfold maxLen; omega)).mono ?_
      rintro e w' ⟨rfl, j4, rfl⟩
      have HEC4 := Lib.hid (HEC4.out.drewN j4)
      clear k0 k3 HU4
      obtain ⟨W5, hW5⟩ : ∃ W5, W5 = W4.drewN j4 := ⟨_, rfl⟩
      rw [← hW5] at HEC4 ⊢
      clear hW5
      go_wp2_with fail
      refine (record_any _ L W5 HEC4.out.row.row HLM.out).mono ?_
      rintro e W6 ⟨p6, rfl, R6, b6⟩
      have HEC6 := Lib.hid (HEC4.out.below b6)
      have hlt4 := HEC4.out.lt
      have HR6 := Lib.hid R6
      clear R6 b6
      go_wp2_with fail
      refine (feed_any (d + 1) dec0 _ (escL L ++ [255, 239]) W6 HEC6.out.d2 (by simp [dec0]) (HR6.out.rowIn.mono fun k hk => by omega) (by rw [List.length_append]; have := escL_le L; have := HLM.out; have := HN.out; simp; omega)).mono ?_
      rw [feed_record, HDL.out]
      rintro e W7 ⟨v7, P7, rfl, hD7, hE7, hP7, hT7⟩
      have HEC7 := Lib.hid (HEC6.out.turn2 hT7 hD7)
      obtain ⟨u7, y7, rfl⟩ := map2 hP7
      obtain ⟨g7, c7, rfl, _, _, k0, _⟩ := hE7.get (i := 1) (p := (⟨2, 0, 0, []⟩, y7)) rfl
      simp only [Nat.one_mul] at k0
      rw [show ([((⟨1, 0, 0, L⟩ : Ev), u7), (⟨2, 0, 0, []⟩, y7)] : List EvP).length = 2 from rfl]
      clear hD7 hE7 hP7 hT7 HR6 HEC6 HEC4 hlt4
      go_wp2_with fail
      refine (tell_any o _ L W7 HEC7.out.row.row HLM.out).mono ?_
      rintro e W8 ⟨p8, rfl, R8, b8⟩
      have HEC8 := Lib.hid (HEC7.out.below b8)
      have hlt7 := HEC7.out.lt
      have HR8 := Lib.hid R8
      clear R8 b8 k0
      go_wp2_with fail
      refine (feed_any (d + 2) dec0 _ (tellL o L) W8 HEC8.out.d3 (by simp [dec0]) (HR8.out.rowIn.mono fun k hk => by omega) (tell_le o L HLM2.out)).mono ?_
      rw [feed_tell, HSUB.out]
      rintro e W9 ⟨v9, P9, rfl, hD9, hE9, hP9, hT9⟩
      have HEC9 := Lib.hid (HEC8.out.turn3 hT9 hD9)
      obtain ⟨u9, rfl⟩ := map1 hP9
      obtain ⟨g9, c9, rfl, _, _, k0, _, k2, k3, _⟩ := hE9.get (i := 0) (p := (⟨6, 0, o, L.take 256⟩, u9)) rfl
      have hu9 := (hE9.own (⟨6, 0, o, L.take 256⟩, u9) (by simp)).row
      simp only [Nat.zero_mul, Nat.zero_add] at k0 k2 k3
      rw [show ([((⟨6, 0, o, L.take 256⟩ : Ev), u9)] : List EvP).length = 1 from rfl]
      have HU9 := Lib.hid hu9
      clear hD9 hE9 hP9 hT9 HR8 HEC8 HEC7 hlt7 hu9
      have hrow9 : RowOf .u8 W9 (.slice (some ⟨g, off, none⟩) 256 cap) (L.take 256) := by
        have := RowOf.takeTo HEC9.out.row.row 256 (by have := HN.out; omega)
        skip
        exact this
      have HROW9 := Lib.hid hrow9
      clear hrow9
      go_wp2_with fail
      go_quiet (first
        | (go_at_call 21; exact same_at HU9.out HROW9.out (by rw [List.length_take]; unfold maxLen; omega))
        | (go_at_call 20; first | exact open_at HEC9.out.d1 rfl | exact open_at HEC9.out.d2 rfl | exact open_at HEC9.out.d3 rfl))
      go_wp2
      go_ret
      exact ⟨rfl, below_drewN HEC9.out.old _⟩
    · have hb1 : (n : Int) ≤ 256 := by omega
      have HSUB : Hid (subE o L = ⟨5, 0, o, L.take 256⟩) := Lib.hid (by unfold subE; rw [if_neg (by have := HN.out; omega)])
      have HTK : Hid (L.take n = L.take 256) := Lib.hid (by rw [List.take_of_length_le (by have := HN.out; omega), List.take_of_length_le (by have := HN.out; omega)])
      by_cases h1 : n = 1
      · subst h1
        go_enter Try.func6, Try.ntmps6
        go_wp2_with fail
        refine (HAL w).mono ?_
        rintro e W1 ⟨rfl, b1⟩
        have hec := ec_new w W1 _ L HR.out b1
        obtain ⟨d, hd⟩ : ∃ d, d = W1.heap.size := ⟨_, rfl⟩
        obtain ⟨W2, hW2⟩ : ∃ W2, W2 = ((W1.alloc (.cells zdec 29)).alloc (.cells zdec 29)).alloc (.cells zdec 29) := ⟨_, rfl⟩
        rw [← hd, ← hW2] at hec
        have HEC2 := Lib.hid hec
        have HW2 := Lib.hid hW2.symm
        have HDD := Lib.hid hd.symm
        clear b1 hec hW2 hd
        go_upto_region 6 with fail
        rw [HW2.out, HDD.out]
        go_wp2_with fail
        refine (escape_any _ L W2 HEC2.out.row.row HLM.out).mono ?_
        rintro e W3 ⟨p3, rfl, R3, b3⟩
        have HEC3 := Lib.hid (HEC2.out.below b3)
        have HR3 := Lib.hid R3
        have hlt2 := HEC2.out.lt
        clear R3 b3
        go_wp2_with fail
        refine (feed_any d dec0 _ (escL L) W3 HEC3.out.d1 (by simp [dec0]) (HR3.out.rowIn.mono fun k hk => by omega) (Nat.le_trans (escL_le L) (by have := HLM.out; have := HN.out; omega))).mono ?_
        rw [feed_esc, HDL.out]
        rintro e W4 ⟨v4, P4, rfl, hD4, hE4, hP4, hT4⟩
        have HEC4 := Lib.hid (HEC3.out.turn1 hT4 hD4)
        obtain ⟨u4, rfl⟩ := map1 hP4
        obtain ⟨g4, c4, rfl, _, _, k0, _, _, k3, _⟩ := hE4.get (i := 0) (p := (⟨1, 0, 0, L⟩, u4)) rfl
        have hu4 := (hE4.own (⟨1, 0, 0, L⟩, u4) (by simp)).row
        simp only [Nat.zero_mul, Nat.zero_add] at k0 k3
        rw [show ([((⟨1, 0, 0, L⟩ : Ev), u4)] : List EvP).length = 1 from rfl]
        have HU4 := Lib.hid hu4
        clear hD4 hE4 hP4 hT4 HR3 HEC3 HEC2 hlt2 HW2 hu4
        go_wp2_with fail
        refine (same_true _ _ L W4 HU4.out HEC4.out.row.row (by have := HLM.out; unfold maxLen; omega)).mono ?_
        rintro e w' ⟨rfl, j4, rfl⟩
        have HEC4 := Lib.hid (HEC4.out.drewN j4)
        clear k0 k3 HU4
        obtain ⟨W5, hW5⟩ : ∃ W5, W5 = W4.drewN j4 := ⟨_, rfl⟩
        rw [← hW5] at HEC4 ⊢
        clear hW5
        go_wp2_with fail
        refine (record_any _ L W5 HEC4.out.row.row HLM.out).mono ?_
        rintro e W6 ⟨p6, rfl, R6, b6⟩
        have HEC6 := Lib.hid (HEC4.out.below b6)
        have hlt4 := HEC4.out.lt
        have HR6 := Lib.hid R6
        clear R6 b6
        go_wp2_with fail
        refine (feed_any (d + 1) dec0 _ (escL L ++ [255, 239]) W6 HEC6.out.d2 (by simp [dec0]) (HR6.out.rowIn.mono fun k hk => by omega) (by rw [List.length_append]; have := escL_le L; have := HLM.out; have := HN.out; simp; omega)).mono ?_
        rw [feed_record, HDL.out]
        rintro e W7 ⟨v7, P7, rfl, hD7, hE7, hP7, hT7⟩
        have HEC7 := Lib.hid (HEC6.out.turn2 hT7 hD7)
        obtain ⟨u7, y7, rfl⟩ := map2 hP7
        obtain ⟨g7, c7, rfl, _, _, k0, _⟩ := hE7.get (i := 1) (p := (⟨2, 0, 0, []⟩, y7)) rfl
        simp only [Nat.one_mul] at k0
        rw [show ([((⟨1, 0, 0, L⟩ : Ev), u7), (⟨2, 0, 0, []⟩, y7)] : List EvP).length = 2 from rfl]
        clear hD7 hE7 hP7 hT7 HR6 HEC6 HEC4 hlt4
        go_wp2_with fail
        refine (tell_any o _ L W7 HEC7.out.row.row HLM.out).mono ?_
        rintro e W8 ⟨p8, rfl, R8, b8⟩
        have HEC8 := Lib.hid (HEC7.out.below b8)
        have hlt7 := HEC7.out.lt
        have HR8 := Lib.hid R8
        clear R8 b8 k0
        go_wp2_with fail
        refine (feed_any (d + 2) dec0 _ (tellL o L) W8 HEC8.out.d3 (by simp [dec0]) (HR8.out.rowIn.mono fun k hk => by omega) (tell_le o L HLM2.out)).mono ?_
        rw [feed_tell, HSUB.out]
        rintro e W9 ⟨v9, P9, rfl, hD9, hE9, hP9, hT9⟩
        have HEC9 := Lib.hid (HEC8.out.turn3 hT9 hD9)
        obtain ⟨u9, rfl⟩ := map1 hP9
        obtain ⟨g9, c9, rfl, _, _, k0, _, k2, k3, _⟩ := hE9.get (i := 0) (p := (⟨5, 0, o, L.take 256⟩, u9)) rfl
        have hu9 := (hE9.own (⟨5, 0, o, L.take 256⟩, u9) (by simp)).row
        simp only [Nat.zero_mul, Nat.zero_add] at k0 k2 k3
        rw [show ([((⟨5, 0, o, L.take 256⟩ : Ev), u9)] : List EvP).length = 1 from rfl]
        have HU9 := Lib.hid hu9
        clear hD9 hE9 hP9 hT9 HR8 HEC8 HEC7 hlt7 hu9
        have hrow9 : RowOf .u8 W9 (.slice (some ⟨g, off, none⟩) 1 cap) (L.take 256) := by
          have := RowOf.takeTo HEC9.out.row.row 1 (by have := HN.out; omega)
          rw [HTK.out] at this
          exact this
        have HROW9 := Lib.hid hrow9
        clear hrow9
        go_wp2_with fail
        go_quiet (first
          | (go_at_call 21; exact same_at HU9.out HROW9.out (by rw [List.length_take]; unfold maxLen; omega))
          | (go_at_call 20; first | exact open_at HEC9.out.d1 rfl | exact open_at HEC9.out.d2 rfl | exact open_at HEC9.out.d3 rfl))
        go_wp2
        go_ret
        exact ⟨rfl, below_drewN HEC9.out.old _⟩
      · have hn3 : (1 : Int) < n := by omega
        have hn4 : 1 < n := by omega
        go_enter Try.func6, Try.ntmps6
        go_wp2_with fail
        refine (HAL w).mono ?_
        rintro e W1 ⟨rfl, b1⟩
        have hec := ec_new w W1 _ L HR.out b1
        obtain ⟨d, hd⟩ : ∃ d, d = W1.heap.size := ⟨_, rfl⟩
        obtain ⟨W2, hW2⟩ : ∃ W2, W2 = ((W1.alloc (.cells zdec 29)).alloc (.cells zdec 29)).alloc (.cells zdec 29) := ⟨_, rfl⟩
        rw [← hd, ← hW2] at hec
        have HEC2 := Lib.hid hec
        have HW2 := Lib.hid hW2.symm
        have HDD := Lib.hid hd.symm
        clear b1 hec hW2 hd
        go_upto_region 6 with fail
        rw [HW2.out, HDD.out]
        go_wp2_with fail
        refine (escape_any _ L W2 HEC2.out.row.row HLM.out).mono ?_
        rintro e W3 ⟨p3, rfl, R3, b3⟩
        have HEC3 := Lib.hid (HEC2.out.below b3)
        have HR3 := Lib.hid R3
        have hlt2 := HEC2.out.lt
        clear R3 b3
        go_wp2_with fail
        refine (feed_any d dec0 _ (escL L) W3 HEC3.out.d1 (by simp [dec0]) (HR3.out.rowIn.mono fun k hk => by omega) (Nat.le_trans (escL_le L) (by have := HLM.out; have := HN.out; omega))).mono ?_
        rw [feed_esc, HDL.out]
        rintro e W4 ⟨v4, P4, rfl, hD4, hE4, hP4, hT4⟩
        have HEC4 := Lib.hid (HEC3.out.turn1 hT4 hD4)
        obtain ⟨u4, rfl⟩ := map1 hP4
        obtain ⟨g4, c4, rfl, _, _, k0, _, _, k3, _⟩ := hE4.get (i := 0) (p := (⟨1, 0, 0, L⟩, u4)) rfl
        have hu4 := (hE4.own (⟨1, 0, 0, L⟩, u4) (by simp)).row
        simp only [Nat.zero_mul, Nat.zero_add] at k0 k3
        rw [show ([((⟨1, 0, 0, L⟩ : Ev), u4)] : List EvP).length = 1 from rfl]
        have HU4 := Lib.hid hu4
        clear hD4 hE4 hP4 hT4 HR3 HEC3 HEC2 hlt2 HW2 hu4
        go_wp2_with fail
        refine (same_true _ _ L W4 HU4.out HEC4.out.row.row (by have := HLM.out; unfold maxLen; omega)).mono ?_
        rintro e w' ⟨rfl, j4, rfl⟩
        have HEC4 := Lib.hid (HEC4.out.drewN j4)
        clear k0 k3 HU4
        obtain ⟨W5, hW5⟩ : ∃ W5, W5 = W4.drewN j4 := ⟨_, rfl⟩
        rw [← hW5] at HEC4 ⊢
        clear hW5
        go_wp2_with fail
        refine (record_any _ L W5 HEC4.out.row.row HLM.out).mono ?_
        rintro e W6 ⟨p6, rfl, R6, b6⟩
        have HEC6 := Lib.hid (HEC4.out.below b6)
        have hlt4 := HEC4.out.lt
        have HR6 := Lib.hid R6
        clear R6 b6
        go_wp2_with fail
        refine (feed_any (d + 1) dec0 _ (escL L ++ [255, 239]) W6 HEC6.out.d2 (by simp [dec0]) (HR6.out.rowIn.mono fun k hk => by omega) (by rw [List.length_append]; have := escL_le L; have := HLM.out; have := HN.out; simp; omega)).mono ?_
        rw [feed_record, HDL.out]
        rintro e W7 ⟨v7, P7, rfl, hD7, hE7, hP7, hT7⟩
        have HEC7 := Lib.hid (HEC6.out.turn2 hT7 hD7)
        obtain ⟨u7, y7, rfl⟩ := map2 hP7
        obtain ⟨g7, c7, rfl, _, _, k0, _⟩ := hE7.get (i := 1) (p := (⟨2, 0, 0, []⟩, y7)) rfl
        simp only [Nat.one_mul] at k0
        rw [show ([((⟨1, 0, 0, L⟩ : Ev), u7), (⟨2, 0, 0, []⟩, y7)] : List EvP).length = 2 from rfl]
        clear hD7 hE7 hP7 hT7 HR6 HEC6 HEC4 hlt4
        go_wp2_with fail
        refine (tell_any o _ L W7 HEC7.out.row.row HLM.out).mono ?_
        rintro e W8 ⟨p8, rfl, R8, b8⟩
        have HEC8 := Lib.hid (HEC7.out.below b8)
        have hlt7 := HEC7.out.lt
        have HR8 := Lib.hid R8
        clear R8 b8 k0
        go_wp2_with fail
        refine (feed_any (d + 2) dec0 _ (tellL o L) W8 HEC8.out.d3 (by simp [dec0]) (HR8.out.rowIn.mono fun k hk => by omega) (tell_le o L HLM2.out)).mono ?_
        rw [feed_tell, HSUB.out]
        rintro e W9 ⟨v9, P9, rfl, hD9, hE9, hP9, hT9⟩
        have HEC9 := Lib.hid (HEC8.out.turn3 hT9 hD9)
        obtain ⟨u9, rfl⟩ := map1 hP9
        obtain ⟨g9, c9, rfl, _, _, k0, _, k2, k3, _⟩ := hE9.get (i := 0) (p := (⟨5, 0, o, L.take 256⟩, u9)) rfl
        have hu9 := (hE9.own (⟨5, 0, o, L.take 256⟩, u9) (by simp)).row
        simp only [Nat.zero_mul, Nat.zero_add] at k0 k2 k3
        rw [show ([((⟨5, 0, o, L.take 256⟩ : Ev), u9)] : List EvP).length = 1 from rfl]
        have HU9 := Lib.hid hu9
        clear hD9 hE9 hP9 hT9 HR8 HEC8 HEC7 hlt7 hu9
        have hrow9 : RowOf .u8 W9 (.slice (some ⟨g, off, none⟩) n cap) (L.take 256) := by
          have := RowOf.takeTo HEC9.out.row.row n (by have := HN.out; omega)
          rw [HTK.out] at this
          exact this
        have HROW9 := Lib.hid hrow9
        clear hrow9
        go_wp2_with fail
        go_quiet (first
          | (go_at_call 21; exact same_at HU9.out HROW9.out (by rw [List.length_take]; unfold maxLen; omega))
          | (go_at_call 20; first | exact open_at HEC9.out.d1 rfl | exact open_at HEC9.out.d2 rfl | exact open_at HEC9.out.d3 rfl))
        go_wp2
        go_ret
        exact ⟨rfl, below_drewN HEC9.out.old _⟩
end Go.Proofs.Ytgjdfhfaikdaaaa.Iac
