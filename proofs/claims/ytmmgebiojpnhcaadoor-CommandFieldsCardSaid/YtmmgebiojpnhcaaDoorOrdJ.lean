/-
  The contract of Parse.
-/
import Derived.Test.YtmmgebiojpnhcaaDoorOrdI
namespace Go.Proofs.YtmmgebiojpnhcaaDoor.Ord
open Go.RowKit Base
set_option linter.unusedVariables false
set_option linter.unusedSimpArgs false

/-! ### Plainly -/
theorem andThen_ok {α β : Type} {r : Rd α} {k : α → Nat → Rd β} {y : β} {m : Nat} (h : r.andThen k = .ok y m) : ∃ x l, r = .ok x l ∧ k x l = .ok y m := by
  cases r with
  | ok x l => exact ⟨x, l, rfl, h⟩
  | bad f => cases h
theorem placeM_adv {L : List Int} {i l : Nat} {x : Int} (h : placeM L i = .ok x l) : i ≤ l := by
  obtain ⟨a, j, h1, h2⟩ := andThen_ok h
  obtain ⟨b, k, h3, h4⟩ := andThen_ok h2
  have e1 := (nx_ok h1).2.1
  have e2 := (nx_ok h3).2.1
  injection h4 with _ e3
  omega
theorem shownM_adv {b : Int} {ge : Bool} {j l : Nat} {x : Int × Bool} (h : shownM b ge j = .ok x l) : l = j := by
  unfold shownM at h
  split at h
  · injection h with _ e; exact e.symm
  · cases h
theorem signM_adv {L : List Int} {i l : Nat} {x : Int × Bool} (h : signM L i = .ok x l) : i ≤ l := by
  obtain ⟨a, j, h1, h2⟩ := andThen_ok h
  have e1 := (nx_ok h1).2.1
  split at h2
  · obtain ⟨b, k, h3, h4⟩ := andThen_ok h2
    have e2 := (nx_ok h3).2.1
    have e3 := shownM_adv h4
    omega
  · have e3 := shownM_adv h2
    omega
theorem pairM_adv {L : List Int} {kind : Int} {i l : Nat} {x : Int × Int} (h : pairM L kind i = .ok x l) : i ≤ l := by
  obtain ⟨a, j, h1, h2⟩ := andThen_ok h
  obtain ⟨b, k, h3, h4⟩ := andThen_ok h2
  have e1 := (nx_ok h1).2.1
  have e2 := (nx_ok h3).2.1
  split at h4
  · injection h4 with _ e3; omega
  · cases h4
theorem pairsM_adv {L : List Int} {kind : Int} : ∀ (n : Nat) {i l : Nat} {x : List (Int × Int)}, pairsM L kind n i = .ok x l → i ≤ l
  | 0, i, l, x, h => by injection h with _ e; omega
  | n + 1, i, l, x, h => by
    obtain ⟨a, j, h1, h2⟩ := andThen_ok h
    obtain ⟨b, k, h3, h4⟩ := andThen_ok h2
    have e1 := pairM_adv h1
    have e2 := pairsM_adv n h3
    injection h4 with _ e3
    omega
theorem ordK_adv {L : List Int} {k : Int} {j l : Nat} {o : Or} (h : ordK L k j = .ok o l) : j ≤ l := by
  unfold ordK at h
  split at h
  · injection h with _ e; omega
  · split at h
    · obtain ⟨x, m, h1, h2⟩ := andThen_ok h
      have := placeM_adv h1
      injection h2 with _ e; omega
    · split at h
      · obtain ⟨x, m, h1, h2⟩ := andThen_ok h
        obtain ⟨y, n, h3, h4⟩ := andThen_ok h2
        have e1 := (nx_ok h1).2.1
        have e2 := shownM_adv h3
        injection h4 with _ e; omega
      · split at h
        · obtain ⟨x, m, h1, h2⟩ := andThen_ok h
          obtain ⟨y, n, h3, h4⟩ := andThen_ok h2
          have e1 := placeM_adv h1
          have e2 := signM_adv h3
          injection h4 with _ e; omega
        · split at h
          · obtain ⟨x, m, h1, h2⟩ := andThen_ok h
            have e1 := (nx_ok h1).2.1
            injection h2 with _ e; omega
          · split at h
            · obtain ⟨x, m, h1, h2⟩ := andThen_ok h
              have e1 := pairsM_adv _ h1
              injection h2 with _ e; omega
            · split at h
              · obtain ⟨x, m, h1, h2⟩ := andThen_ok h
                obtain ⟨y, n, h3, h4⟩ := andThen_ok h2
                have e1 := (nx_ok h1).2.1
                have e2 := pairsM_adv _ h3
                injection h4 with _ e; omega
              · cases h
theorem orderM_adv {L : List Int} {i l : Nat} {o : Or} (hi : i < L.length) (h : orderM L i = .ok o l) : i < l := by
  unfold orderM at h
  split at h
  · next hp =>
    injection h with _ e
    have : 0 < (dataL L i).length := by
      unfold dataL
      rw [List.drop_eq_getElem_cons hi, List.takeWhile_cons_of_pos (by simpa [hi] using hp)]
      simp
    omega
  · have := ordK_adv h
    omega
theorem OrdsOwn.lower {s s' : Nat} {w : World} {v : Value} {P : List OrdP} (h : OrdsOwn s w v P) (hs : s' ≤ s) : OrdsOwn s' w v P := ⟨ownsRow_base h.row hs, fun p hp => ⟨(h.own p hp).1.base hs, (h.own p hp).2.lower hs⟩⟩
/-- The orders from a place on, where they end, and what breaks them off. -/
def parseL (L : List Int) : Nat → Nat → List Or × Nat × Option Flt
  | 0, i => ([], i, none)
  | f + 1, i => if i < L.length then (match orderM L i with | .bad x => ([], i, some x) | .ok o j => (o :: (parseL L f j).1, (parseL L f j).2)) else ([], i, none)
theorem parseL_end (L : List Int) (f i : Nat) (h : ¬ i < L.length) : parseL L f i = ([], i, none) := by
  cases f with
  | zero => rfl
  | succ f => unfold parseL; rw [if_neg h]
def preP (A : List Or) (t : List Or × Nat × Option Flt) : List Or × Nat × Option Flt := (A ++ t.1, t.2)
structure PQ (w : World) (eb rb : Nat) (a : Option Addr) (cap : Nat) (L : List Int) (T : List Or × Nat × Option Flt) (v : Value) (i : Nat) (wr : World) : Prop where
  ex : ∃ P f, L.length ≤ i + f ∧ T = preP (P.map (·.1)) (parseL L f i) ∧ OrdsOwn (rb + 1) wr v P ∧ P.length ≤ i
  rd : Rdr wr rb a cap L i
  eb : wr.heap[eb]? = some (.cells #[.int .i64 0] 25 (0, 0))
  old : Below w.heap.size w wr
def ParseRel (w : World) (eb rb : Nat) (a : Option Addr) (cap : Nat) (L : List Int) (T : List Or × Nat × Option Flt) (v r : Value) (wr : World) : Prop := ∃ i : Nat, r = .int .i64 i ∧ PQ w eb rb a cap L T v i wr
def ParseP (w : World) (T : List Or × Nat × Option Flt) (e : Ending) (w' : World) : Prop := ∃ u P, e = .returned (.tuple #[u, .int .i64 T.2.1, .int .i64 (errOf T.2.2)]) ∧ OrdsOwn w.heap.size w' u P ∧ P.map (·.1) = T.1 ∧ Below w.heap.size w w'
set_option maxRecDepth 100000 in
set_option maxHeartbeats 2000000 in
theorem parse_any (v : Value) (L : List Int) (w : World) (hc : CutRow w v L) (hb : ∀ x ∈ L, 0 ≤ x ∧ x < 256) (hm : L.length ≤ 1000000) :
    Calls Tryd.prog 23 #[v] w (ParseP w (parseL L (L.length + 1) 0)) := by
  have hmf : ∀ (fn : Fn) (first cap : Array Value) (w : World), (Instr.makeFunc fn first cap).run Tryd.prog w = .ok (.func fn first cap) w := fun _ _ _ _ => rfl
  obtain ⟨i0, hi, hz0, hz1, hz2⟩ := info_parts info_ords
  obtain ⟨hrow, a, cap, rfl, hcap, _⟩ := hc
  obtain ⟨T, hT⟩ : ∃ T, T = parseL L (L.length + 1) 0 := ⟨_, rfl⟩
  rw [← hT]
  obtain ⟨n, hn⟩ : ∃ n, n = L.length := ⟨_, rfl⟩
  have e1 := below_alloc w (.cells #[.int .i64 0] 25)
  have k1 := heap_alloc_new w (.cells #[.int .i64 0] 25)
  have s1 := World.size_alloc w (.cells #[.int .i64 0] 25)
  obtain ⟨W1, hW1⟩ : ∃ W1, W1 = w.alloc (.cells #[.int .i64 0] 25) := ⟨_, rfl⟩
  obtain ⟨eb, heb⟩ : ∃ eb, eb = w.heap.size := ⟨_, rfl⟩
  rw [← hW1] at e1 k1 s1
  rw [← heb] at k1
  have e2 := below_alloc W1 (.cells #[.slice a n cap, .int .i64 0] 89)
  have k2 := heap_alloc_new W1 (.cells #[.slice a n cap, .int .i64 0] 89)
  have s2 := World.size_alloc W1 (.cells #[.slice a n cap, .int .i64 0] 89)
  obtain ⟨W2, hW2⟩ : ∃ W2, W2 = W1.alloc (.cells #[.slice a n cap, .int .i64 0] 89) := ⟨_, rfl⟩
  obtain ⟨rb, hrb⟩ : ∃ rb, rb = W1.heap.size := ⟨_, rfl⟩
  rw [← hW2] at e2 k2 s2
  rw [← hrb] at k2
  have hold : Below w.heap.size w W2 := e1.trans (e2.mono e1.size)
  have hrd : Rdr W2 rb a cap L 0 := ⟨by rw [← hn]; exact k2, ((hrow.lowK.below hold).mono fun k hk => by omega), hb, by omega, by omega, hm⟩
  have HP := Lib.hid (show PQ w eb rb a cap L T (.slice none 0 0) 0 W2 from ⟨⟨[], n + 1, by omega, by rw [hT, ← hn]; simp [preP], OrdsOwn.nil _ _, by simp⟩, hrd, (e2.block eb (lt_of_block k1)).trans k1, hold⟩)
  have HN := Lib.hid hn
  have HW1 := Lib.hid hW1.symm
  have HW2 := Lib.hid hW2.symm
  have HEB := Lib.hid heb.symm
  have HRB : Hid (eb + 1 = rb) := Lib.hid (by omega)
  have HLT : Hid (w.heap.size ≤ eb ∧ eb < rb) := Lib.hid ⟨by omega, by omega⟩
  rw [← hn] at hm ⊢
  clear hrow hcap hb hT hn e1 k1 s1 hW1 heb e2 k2 s2 hW2 hrb hold hrd
  go_enter_defers Tryd.func23, Tryd.ntmps23
  go_upto_region 3 with fail
  rw [HW1.out, HW2.out, HEB.out, HRB.out]
  clear HW1 HW2
  go_loopw [2, 3] (fun v r wr => ParseRel w eb rb a cap L T v r wr) (fun _ r _ => n - (intOf r).toNat)
  case atStart => exact ⟨0, rfl, HP.out⟩
  case round =>
    obtain ⟨i, rfl, hP⟩ := hrel
    obtain ⟨⟨P, f, hf, hT, hown, hPi⟩, hrd, heb, hold⟩ := hP
    obtain ⟨va, vc, rfl⟩ := hown.form
    obtain ⟨c0, c1, fz⟩ := hrd.cells
    have hle := hrd.le
    rw [← HN.out] at c0 hle
    obtain ⟨m, hm2⟩ : ∃ m, m = P.length := ⟨_, rfl⟩
    rw [← hm2] at hown ⊢
    have HF := Lib.hid (show n ≤ i + f by have := HN.out; omega)
    have HT := Lib.hid hT
    have HO := Lib.hid hown
    have HRD := Lib.hid hrd
    have HE := Lib.hid heb
    have HOL := Lib.hid hold
    have HPI := Lib.hid hPi
    have HM := Lib.hid hm2
    have hmi : m ≤ 1000000 := by omega
    clear hf hT hown hrd heb hold fz HP hm2 hPi
    by_cases hin : i < n
    · have hini : (i : Int) < (n : Int) := by omega
      have hiL : i < L.length := by rw [← HN.out]; exact hin
      cases f with
      | zero => have := HF.out; omega
      | succ f =>
        have hT := HT.out
        unfold parseL at hT
        rw [if_pos hiL] at hT
        have hc := order_any HRD.out hiL
        obtain ⟨r, hr⟩ : ∃ r, r = orderM L i := ⟨_, rfl⟩
        rw [← hr] at hc hT
        cases r with
        | bad x =>
          have hT2 : T = (P.map (·.1), i, some x) := by rw [hT]; simp [preP]
          have HT2 := Lib.hid hT2
          have HC := Lib.hid hc
          clear hT hT2 hc hr HT
          go_wp2_with fail
          refine HC.out.mono ?_
          rintro e W5 ⟨t5, he⟩
          have he : e = thrown x := he
          subst he
          have E5 := Lib.hid ((t5.block eb (lt_of_block HE.out) (fun e => by have : eb = rb := e; have := HLT.out; omega)).trans HE.out)
          have O5 := Lib.hid (HO.out.turn t5 fun k hk => by have : k = rb := hk; omega)
          have L5 := Lib.hid (HOL.out.trans (t5.at_below HOL.out.size (by have := HLT.out; omega)))
          clear t5
          unfold thrown
          go_wp2_with fail
          refine leaves_cons (f := 38) (args := #[.pointer (some ⟨eb, 0, none⟩)]) (by simp) (by simp [go_sem]) ?_
          refine (catch_panic eb 0 x W5 E5.out).mono ?_
          rintro e u' w'' ⟨rfl, rfl, W6, b6, rfl⟩
          have k6 := (b6.block eb (lt_of_block E5.out)).trans E5.out
          have hcell : (W6.setCell ⟨eb, 0, none⟩ (.int .i64 (errOf (some x)))).cell? ⟨eb, 0, none⟩ = some (.int .i64 (errOf (some x))) := by
            have := heap_set k6 0 (.int .i64 (errOf (some x)))
            simp [World.cell?, this]
          simp [Leaves, settle, results, Tryd.results23, go_sem]
          rw [hcell]
          refine ⟨_, rfl, .slice va m vc, P, by rw [HT2.out], ?_, by rw [HT2.out], ?_⟩
          · have o6 : OrdsOwn (rb + 1) (W6.setCell ⟨eb, 0, none⟩ (.int .i64 (errOf (some x)))) (.slice va m vc) P := (O5.out.below b6).turn (turn_set W6 eb 0 _) fun k hk => by have : k = eb := hk; have := HLT.out; omega
            exact o6.lower (by have := HLT.out; omega)
          · exact (L5.out.trans (b6.mono L5.out.size)).setCell HLT.out.1 _
        | ok o j =>
          obtain ⟨k, ad, by_, ge, ps, dt⟩ := o
          have hT2 : T = preP (P.map (·.1) ++ [⟨k, ad, by_, ge, ps, dt⟩]) (parseL L f j) := by rw [hT]; simp [preP]
          have HT2 := Lib.hid hT2
          have HJ := Lib.hid (orderM_adv hiL hr.symm)
          have HC := Lib.hid hc
          clear hT hT2 hc hr HT
          go_upto_region 5 with (first
            | (go_at_call 39; refine HC.out.mono ?_; rintro e W5 ⟨t5, ⟨V, rfl, vp, vd, rfl, hp5, hd5⟩, h5⟩; have hraw : W5.ownsRow (rb + 1) 92 6 (.slice va m vc) m (ordC P) := by {
                have := (HO.out.turn t5 fun k hk => by { have : k = rb := hk; omega }).row
                rw [← HM.out] at this; exact this }; have HRAW := Lib.hid hraw; have O5 := Lib.hid (HO.out.turn t5 fun k hk => by { have : k = rb := hk; omega }); have HZ : Hid (rb + 1 ≤ W5.heap.size) := Lib.hid (lt_of_block h5.box); have HW5 : Hid (rb + 1 ≤ wr.heap.size) := Lib.hid (lt_of_block HRD.out.box); have P5 := Lib.hid (hp5.base HW5.out); have D5 := Lib.hid (hd5.lower HW5.out); have R5 := Lib.hid h5; have T5 := Lib.hid t5; obtain ⟨pa, pc, rfl⟩ := hp5.slice; obtain ⟨da, dc, rfl⟩ := hd5.slice; clear hraw hp5 hd5 h5 t5; simp only [])
            | (at_builtin; refine wpList_append_own _ rfl _ _ 24 rfl (rb + 1) 92 i0 (.agg #[.int .u8 0, .int .i64 0, .int .u8 0, .bool false, .slice none 0 0, .slice none 0 0]) 6 72 Tryd.underlying24 hi hz0 hz1 hz2 rfl (by decide) _ _ _ rfl (HRAW.out.alloc _) ⟨W5.heap.size, 0, none⟩ 1 1 [.int .u8 k, .int .i64 ad, .int .u8 by_, .bool ge, .slice pa ps.length pc, .slice da dt.length dc] rfl rfl (ord_cl W5 k ad by_ ge _ _) (by simp [Value.oneCell']) (by unfold maxLen; omega) (by omega) (by rw [World.size_alloc]; have := HZ.out; omega) ?_; intro v' W6 hown' hgrow _; have HOWN := Lib.hid hown'; have HGR := Lib.hid hgrow; clear hown' hgrow))
          have hal := below_alloc W5 (.cells #[.int .u8 k, .int .i64 ad, .int .u8 by_, .bool ge, .slice pa ps.length pc, .slice da dt.length dc] 92)
          have hfirst : ∀ g, (Value.slice va m vc).ownBlock = some g → rb + 1 ≤ g := row_first HRAW.out
          have u6 : Turn (fun g => rb < g) W5 W6 := (Turn.of_below hal).grown HGR.out fun g e => .inr (hfirst g e)
          have h6 := R5.out.high u6
          have o6 := O5.out.grown (q := ⟨k, ad, by_, ge, ps, dt⟩) P5.out D5.out (by rw [← HM.out]; exact HOWN.out) HGR.out
          have b5 : Below w.heap.size w W5 := HOL.out.trans (T5.out.at_below HOL.out.size (by have := HLT.out; omega))
          have b6 : Below w.heap.size w W6 := b5.trans (u6.below b5.size fun g hg => by have := HLT.out; omega)
          have k6 := (u6.block eb (Nat.lt_of_lt_of_le (lt_of_block HE.out) T5.out.size) (fun hg => by have := HLT.out; omega)).trans ((T5.out.block eb (lt_of_block HE.out) (fun e => by have : eb = rb := e; have := HLT.out; omega)).trans HE.out)
          obtain ⟨_, c1, _⟩ := h6.cells
          have hfin : PQ w eb rb a cap L T v' j W6 := ⟨⟨P ++ [(⟨k, ad, by_, ge, ps, dt⟩, .slice pa ps.length pc, .slice da dt.length dc)], f, by have := HF.out; have := HJ.out; have := HN.out; omega, by rw [HT2.out]; simp, o6, by rw [List.length_append]; have := HPI.out; have := HJ.out; simp; omega⟩, h6, k6, b6⟩
          have HFIN := Lib.hid hfin
          clear hal hfirst u6 h6 o6 b5 b6 k6 hfin
          go_wp2_with fail
          go_roundw
          case rel => exact ⟨j, rfl, HFIN.out⟩
          case measure => have := HJ.out; simp [intOf]; omega
    · obtain rfl : n = i := by omega
      have hT2 : T = (P.map (·.1), n, none) := by
        rw [HT.out, parseL_end L f n (by have := HN.out; omega)]
        simp [preP]
      have HT2 := Lib.hid hT2
      obtain ⟨e0, f0⟩ : wr.cell? ⟨eb, 0, none⟩ = some (.int .i64 0) ∧ wr.frozen? ⟨eb, 0, none⟩ = false := by
        have := HE.out
        exact ⟨by simp [World.cell?, this], by simp [World.frozen?, this]⟩
      clear hT2 HT
      go_wp2_with fail
      refine leaves_cons (f := 38) (args := #[.pointer (some ⟨eb, 0, none⟩)]) (by simp) (by simp [go_sem]) ?_
      refine (catch_idle ⟨eb, 0, none⟩ _).mono ?_
      rintro e u' w'' ⟨rfl, rfl, rfl⟩
      have hcell : (wr.setCell ⟨eb, 0, none⟩ (.int .i64 0)).cell? ⟨eb, 0, none⟩ = some (.int .i64 0) := by
        have := heap_set HE.out 0 (.int .i64 0)
        simp [World.cell?, this]
      simp [Leaves, settle, results, Tryd.results23, go_sem]
      rw [hcell]
      refine ⟨_, rfl, .slice va m vc, P, by rw [HT2.out]; rfl, ?_, by rw [HT2.out], ?_⟩
      · have o6 : OrdsOwn (rb + 1) (wr.setCell ⟨eb, 0, none⟩ (.int .i64 0)) (.slice va m vc) P := HO.out.turn (turn_set wr eb 0 _) fun k hk => by have : k = eb := hk; have := HLT.out; omega
        exact o6.lower (by have := HLT.out; omega)
      · exact HOL.out.setCell HLT.out.1 _
end Go.Proofs.YtmmgebiojpnhcaaDoor.Ord
