/-
  The contracts of endsRecord and Split.
-/
import Derived.Test.YtimidoaafllnkaaRecC
import Derived.Test.YtimidoaafllnkaaIacAliveA
namespace Go.Proofs.Ytimidoaafllnkaa.Rec
open Go.RowKit Base Iac
set_option linter.unusedVariables false

def endsB (E : List Ev) : Bool := match E.getLast? with | none => true | some e => decide (e.kind = 2)
set_option maxRecDepth 100000 in
theorem ends_any (v : Value) (E : List Ev) (w : World) (h : EvsAt w v E) (hl : E.length ≤ 200000) : Calls Try.prog 95 #[v] w fun e w' => e = .returned (.bool (endsB E)) ∧ w = w' := by
  obtain ⟨a, cap, rfl, hrow⟩ := h
  rcases List.eq_nil_or_concat E with rfl | ⟨Q, q, rfl⟩
  · clear hrow
    go_enter Try.func95, Try.ntmps95
    go_wp2_with fail
    go_ret
    exact ⟨rfl, rfl⟩
  · rw [List.concat_eq_append] at hrow hl ⊢
    obtain ⟨g, off, rfl, _, hc⟩ := hrow (by simp)
    obtain ⟨_, d0, _⟩ := hc Q.length q (by simp)
    obtain ⟨b, hb⟩ : ∃ b, b = endsB (Q ++ [q]) := ⟨_, rfl⟩
    have hbk : b = decide (q.kind = 2) := by rw [hb]; simp [endsB]
    rw [← hb]
    obtain ⟨n, hn⟩ : ∃ n, n = Q.length := ⟨_, rfl⟩
    rw [List.length_append, List.length_singleton, ← hn] at hl ⊢
    rw [← hn] at d0
    obtain ⟨k, hk⟩ : ∃ k, k = q.kind := ⟨_, rfl⟩
    rw [← hk] at d0 hbk
    have gi0 : (0 : Int) ≤ (n : Int) := by omega
    have gi1 : (n : Int) < (n : Int) + 1 := by omega
    have gw : IntKind.i64.wrap ((n : Int) + 1 - 1) = (n : Int) := by rw [show (n : Int) + 1 - 1 = (n : Int) by omega]; exact IntWalk.i64_in _ (by omega)
    have hn0 : ((n : Int) + 1 == 0) = false := by simp; omega
    clear hc hrow hb hn hk
    by_cases h2 : k = 2
    · subst h2
      have hbt : b = true := by rw [hbk]; rfl
      subst hbt
      clear hbk
      go_enter Try.func95, Try.ntmps95
      go_wp2_with fail
      go_ret
      exact ⟨rfl, rfl⟩
    · have hbt : b = false := by rw [hbk]; simpa using h2
      have t2 : (k == 2) = false := by simpa using h2
      subst hbt
      clear hbk h2
      go_enter Try.func95, Try.ntmps95
      go_wp2_with fail
      go_ret
      exact ⟨rfl, rfl⟩
def splitOk (L : List Int) : Bool := decide ((feedD dec0 L).1.state = 0) && endsB (feedD dec0 L).2
def SplitP (L : List Int) (w : World) (e : Ending) (w' : World) : Prop :=
  Below w.heap.size w w' ∧ if splitOk L = true then ∃ u R, e = .returned (.tuple #[u, .int .i64 (runM (feedD dec0 L).2).n, .int .i64 0]) ∧ RowsOwn w.heap.size w' u R ∧ R.map (·.1) = (runM (feedD dec0 L).2).rs
    else e = .returned (.tuple #[.slice none 0 0, .int .i64 0, .int .i64 20])
set_option maxRecDepth 100000 in
set_option maxHeartbeats 4000000 in
theorem split_any (v : Value) (L : List Int) (w : World) (h : RowOf .u8 w v L) (hl : L.length ≤ 40000) : Calls Try.prog 56 #[v] w (SplitP L w) := by
  have hzd := (zero_of_info info_dec).1
  obtain ⟨s, hs⟩ : ∃ s, s = w.heap.size := ⟨_, rfl⟩
  have hd := dec_new w
  have hb := below_alloc w (.cells zdec 102)
  have hz := World.size_alloc w (.cells zdec 102)
  have hr : RowIn (fun k => k ≠ s) .u8 (w.alloc (.cells zdec 102)) v L := (h.lowK.below hb).mono fun k hk => by omega
  obtain ⟨W1, hW1⟩ : ∃ W1, W1 = w.alloc (.cells zdec 102) := ⟨_, rfl⟩
  rw [← hW1] at hd hb hz hr
  rw [← hs] at hd hz
  obtain ⟨E, hE⟩ : ∃ E, E = (feedD dec0 L).2 := ⟨_, rfl⟩
  obtain ⟨D, hD⟩ : ∃ D, D = (feedD dec0 L).1 := ⟨_, rfl⟩
  have hfine := feedD_fine dec0 L (by simp [dec0]) (by simp [dec0])
  have HD := Lib.hid hd
  have HB := Lib.hid hb
  have HZ := Lib.hid hz
  have HR := Lib.hid hr
  have HS := Lib.hid hs.symm
  have HW1 := Lib.hid hW1.symm
  have HE := Lib.hid hE
  have HDD := Lib.hid hD
  have HSP : Hid (splitOk L = (decide (D.state = 0) && endsB E)) := Lib.hid (by rw [splitOk, ← hE, ← hD])
  have HEL : Hid (E.length ≤ 200000 ∧ ∀ e ∈ E, e.bytes.length ≤ 1000000) := Lib.hid (by
    rw [hE]
    exact ⟨by have := hfine.many; omega, fun e he => by have := hfine.each e he; omega⟩)
  obtain ⟨av, cv, rfl, _⟩ := h
  clear hd hb hz hr hs hW1 hE hD hfine
  go_enter Try.func56, Try.ntmps56
  go_upto_region 2 with fail
  rw [HW1.out, HS.out]
  go_wp2_with fail
  refine (feed_any s dec0 _ L W1 HD.out (by simp [dec0]) HR.out hl).mono ?_
  rintro e W2 ⟨v2, P, rfl, hd2, hP, hPm, ht2⟩
  rw [← HDD.out] at hd2
  rw [← HE.out] at hPm
  have hev := hP.evsAt
  rw [hPm] at hev
  have HEV := Lib.hid hev
  have HD2 := Lib.hid hd2
  have HB2 : Hid (Below w.heap.size w W2) := Lib.hid (HB.out.trans (ht2.below HB.out.size fun k hk => by rcases hk with rfl | hk; rw [HS.out]; exact Nat.le_refl _; have := HZ.out; have := HS.out; omega))
  obtain ⟨ga, gc, rfl⟩ := hP.form
  obtain ⟨n, hn⟩ : ∃ n, n = P.length := ⟨_, rfl⟩
  rw [← hn] at HEV ⊢
  clear hev hd2 ht2 hP hPm hn
  by_cases h0 : D.state = 0
  · by_cases he : endsB E = true
    · have HOK : Hid (splitOk L = true) := Lib.hid (by rw [HSP.out, he, decide_eq_true h0]; rfl)
      have HD0 := Lib.hid h0
      have HEE := Lib.hid he
      clear h0 he
      go_wp2_with fail
      refine (open_any HD2.out).mono ?_
      rintro e W' ⟨rfl, rfl⟩
      rw [show (D.state != 0) = false by rw [HD0.out]; rfl]
      go_wp2_with fail
      refine (ends_any _ E W2 HEV.out HEL.out.1).mono ?_
      rintro e W' ⟨rfl, rfl⟩
      rw [HEE.out]
      go_wp2_with fail
      refine (all_any _ E W2 HEV.out HEL.out.1 HEL.out.2).mono ?_
      rintro e W3 ⟨u, R, rfl, hR, hRm, hb3⟩
      have HRR := Lib.hid (hR.lower HB2.out.size)
      have HRM := Lib.hid hRm
      have HB3 := Lib.hid (HB2.out.trans (hb3.mono HB2.out.size))
      clear hR hRm hb3
      go_wp2_with fail
      go_ret3
      refine ⟨HB3.out, ?_⟩
      rw [if_pos HOK.out]
      exact ⟨u, R, by rw [← HE.out]; rfl, HRR.out, by rw [← HE.out]; exact HRM.out⟩
    · have he' : endsB E = false := by simpa using he
      have HOK : Hid (splitOk L = false) := Lib.hid (by rw [HSP.out, he', Bool.and_false])
      have HD0 := Lib.hid h0
      have HEE := Lib.hid he'
      clear h0 he he'
      go_wp2_with fail
      refine (open_any HD2.out).mono ?_
      rintro e W' ⟨rfl, rfl⟩
      rw [show (D.state != 0) = false by rw [HD0.out]; rfl]
      go_wp2_with fail
      refine (ends_any _ E W2 HEV.out HEL.out.1).mono ?_
      rintro e W' ⟨rfl, rfl⟩
      rw [HEE.out]
      go_wp2_with fail
      go_ret3
      exact ⟨HB2.out, by rw [if_neg (by rw [HOK.out]; simp)]; rfl⟩
  · have HOK : Hid (splitOk L = false) := Lib.hid (by rw [HSP.out, decide_eq_false h0, Bool.false_and])
    have HD0 : Hid ((D.state != 0) = true) := Lib.hid (by simpa using h0)
    clear h0
    go_wp2_with fail
    refine (open_any HD2.out).mono ?_
    rintro e W' ⟨rfl, rfl⟩
    rw [HD0.out]
    go_wp2_with fail
    go_ret3
    exact ⟨HB2.out, by rw [if_neg (by rw [HOK.out]; simp)]; rfl⟩
end Go.Proofs.Ytimidoaafllnkaa.Rec
