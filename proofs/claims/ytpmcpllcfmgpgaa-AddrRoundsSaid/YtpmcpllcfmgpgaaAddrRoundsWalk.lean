/-
  The walk of AddrRounds: it returns true whatever comes, and leaves all that was in memory as it was.
-/
import Derived.Test.YtpmcpllcfmgpgaaAddrPlacesA
import Derived.Laws.AppendOwnNone
import Derived.Maps.OwnOps
import Derived.Maps.OwnSet
import Derived.Deep.DeepCutAuto
namespace Go.Proofs.Ytpmcpllcfmgpgaa
open Go.RowKit Go.Maps
set_option linter.unusedVariables false

/-! ### The places, plainly -/
theorem step_add (n f : Int) (m j : Nat) : step n (step n f m) j = step n f (m + j) := by
  unfold step
  rw [Int.emod_add_emod]
  congr 1
  omega
theorem first_append (n f : Int) (m1 m2 : Nat) : first n f m1 ++ first n (step n f m1) m2 = first n f (m1 + m2) := by
  unfold first
  rw [List.range_add, List.map_append, List.map_map]
  congr 1
  apply List.map_congr_left
  intro j _
  simp only [Function.comp]
  exact step_add n f m1 j
theorem many_same (n f : Int) (h : 0 ≤ n) : many n f f = n.toNat := by
  unfold many; rw [if_pos (by omega)]; congr 1; omega
theorem many_two (n f t : Int) (f0 : 0 ≤ f) (f1 : f < n) (t0 : 0 ≤ t) (t1 : t < n) (hne : f ≠ t) : many n f t + many n t f = n.toNat ∧ step n f (many n f t) = t := by
  unfold many step
  by_cases h : t - f ≤ 0
  · rw [if_pos h, if_neg (by omega)]
    refine ⟨by omega, ?_⟩
    have e : f + ((t - f + n).toNat : Int) = t + n := by omega
    rw [e, Int.add_emod_right, Int.emod_eq_of_lt t0 t1]
  · rw [if_neg h, if_pos (by omega)]
    refine ⟨by omega, ?_⟩
    have e : f + ((t - f).toNat : Int) = t := by omega
    rw [e, Int.emod_eq_of_lt t0 t1]
theorem inn_yes (n f t : Int) (f0 : 0 ≤ f) (f1 : f < n) (t0 : 0 ≤ t) (t1 : t < n) : inn n f t = true := by unfold inn; exact decide_eq_true ⟨f0, f1, t0, t1⟩
theorem betw_take (n f t : Int) (hn : n ≤ 300) (f0 : 0 ≤ f) (f1 : f < n) (t0 : 0 ≤ t) (t1 : t < n) : (betw n f t).take (400 : Int).toNat = first n f (many n f t) := by
  have hi := inn_yes n f t f0 f1 t0 t1
  have hm := many_bd n f t hi
  have e : betw n f t = first n f (many n f t) := by unfold betw; rw [if_pos hi]
  rw [e, List.take_of_length_le]
  rw [first_length]
  have : (400 : Int).toNat = 400 := rfl
  omega
theorem rounds_one (n f : Int) (hn : n ≤ 300) (f0 : 0 ≤ f) (f1 : f < n) : (betw n f f).take (400 : Int).toNat = first n f n.toNat := by
  rw [betw_take n f f hn f0 f1 f0 f1, many_same n f (by omega)]
theorem rounds_two (n f t : Int) (hn : n ≤ 300) (f0 : 0 ≤ f) (f1 : f < n) (t0 : 0 ≤ t) (t1 : t < n) (hne : f ≠ t) : (betw n f t).take (400 : Int).toNat ++ (betw n t f).take (400 : Int).toNat = first n f n.toNat := by
  obtain ⟨h1, h2⟩ := many_two n f t f0 f1 t0 t1 hne
  rw [betw_take n f t hn f0 f1 t0 t1, betw_take n t f hn t0 t1 f0 f1, ← h1, ← first_append, h2]
theorem first_get (n f : Int) (m k : Nat) (h : k < m) : (first n f m)[k]?.getD 0 = step n f k := by
  unfold first; simp [h]
theorem step_inj (n f : Int) (i k : Nat) (hik : i < k) (hk : (k : Int) < n) : step n f i ≠ step n f k := by
  unfold step
  intro h
  have h1 := Int.emod_emod_of_dvd
  have h2 : (f + k - (f + i)) % n = 0 := Int.emod_eq_zero_of_dvd (Int.dvd_of_emod_eq_zero (by rw [Int.sub_emod, h]; simp))
  have e : f + (k : Int) - (f + i) = k - i := by omega
  rw [e, Int.emod_eq_of_lt (by omega) (by omega)] at h2
  omega
theorem mv_step (n f : Int) (k : Nat) (h : n ≠ 0) : mv n f k = step n f k := by unfold mv step; rw [if_neg h]
theorem mv_bd (n a b : Int) (h : 0 < n) : 0 ≤ mv n a b ∧ mv n a b < n := by
  unfold mv; rw [if_neg (by omega)]; exact ⟨Int.emod_nonneg _ (by omega), Int.emod_lt_of_pos _ h⟩
theorem mv_round (n f : Int) (f0 : 0 ≤ f) (f1 : f < n) : mv n f n = f := by
  unfold mv; rw [if_neg (by omega), Int.add_emod_right, Int.emod_eq_of_lt f0 f1]
theorem mv_two (n f a b : Int) (h : n ≠ 0) : mv n (mv n f a) (-b) = mv n f (a - b) := by
  unfold mv; rw [if_neg h, if_neg h, if_neg h, Int.emod_add_emod]; congr 1; omega

/-- The places that were seen. -/
def seenR (n f : Int) : Nat → DataW Unit
  | 0 => .map []
  | k + 1 => (seenR n f k).put (.int .i64 (step n f k)) (.lit (.bool true))
theorem seenR_new (n f : Int) (k : Nat) (hk : (k : Int) < n) (z : DataW Unit) : ∀ j, j ≤ k → (seenR n f j).atKey (.int .i64 (step n f k)) z = z
  | 0, _ => by simp [seenR, DataW.atKey]
  | j + 1, hj => by
    unfold seenR
    rw [atKey_put_other (by intro h; have h2 := (Lit.int.inj h).2; exact step_inj n f j k (by omega) hk h2.symm), seenR_new n f k hk z j (by omega)]
theorem zero_bool (w : World) : (zeroValue 4).run Try.prog w = .ok (.bool false) w := by kernel_rfl
theorem plain_bool_inv {v : Value} {b : Bool} {ps : List MemPlace} (h : plainElem (H := Unit) Try.prog 4 v = some (.lit (.bool b), ps)) : v = .bool b := by
  unfold plainElem at h
  rw [Try.underlying4] at h
  cases v <;> simp at h
  rw [h.1]
theorem look_new {w : World} {B k : Nat} {n f : Int} (hown : w.ownsMap Try.prog 3 (plainElem (H := Unit) Try.prog 4) B k (seenR n f k)) (hk : (k : Int) < n) {key : Value} (hkey : keyOf Try.prog 3 key = some (.int .i64 (step n f k))) :
    (Instr.lookup 69 (.map (some B)) key false).run Try.prog w = .ok (.bool false) w := by
  obtain ⟨v, ps, hrun, hv⟩ := hown.lookup (int_keyed Try.underlying3) Try.underlying69 (zero_bool w) (plainElem_bool Try.underlying4 false) hkey
  rw [seenR_new n f k hk _ k (Nat.le_refl _)] at hv
  rw [hrun, plain_bool_inv hv]

/-! ### append of rows of numbers -/
theorem RowOf.cells64 {w : World} {b off : Nat} {L : List Int} (h : ∀ i, i < L.length → w.cell? ⟨b, off + i, none⟩ = some (.int .i64 (L[i]?.getD 0))) :
    ∀ j u, (L.map (Value.int .i64))[j]? = some u → w.cell? ((⟨b, off, none⟩ : Addr).add j) = some u := by
  intro j u hu
  have hj : j < L.length := by
    have := (List.getElem?_eq_some_iff.1 hu).1
    simpa using this
  have e : (Addr.mk b off none).add j = ⟨b, off + j, none⟩ := by unfold Addr.add; split <;> simp_all
  rw [e, h j hj]
  simp [hj] at hu
  simp [hj, hu]
theorem wpList_append_ints {ops : Array Oper} {rest : List Oper} {o : Oper} {a : Act} {w : World} {Q : Exit → Act → World → Prop} (hw : Region.wanted o (yielded ops a.tmps) = true) (s x : Operand)
    (ho : o.op = .call { callee := .builtin .append, args := #[s, x], argTypes := #[62, 62] })
    (base : Nat) (v : Value) (A : List Int) (hs : a.eval s = v) (hown : w.ownsRow base 3 1 v A.length (A.map (Value.int .i64)))
    (y : Value) (B : List Int) (hx : a.eval x = y) (hrow : RowOf .i64 w y B) (hnil : ∀ l c, y = .slice none l c → c = 0) (hlen : A.length + B.length ≤ 1000000000) (hbase : base ≤ w.heap.size)
    (h : ∀ v' w', w'.ownsRow base 3 1 v' (A ++ B).length ((A ++ B).map (Value.int .i64)) → w.grownBy w' v.ownBlock → wpList Try.prog ops Q rest (a.put o.dst v') w') : wpList Try.prog ops Q (o :: rest) a w := by
  obtain ⟨i0, hi, hz0, hz1, hz2⟩ := info_parts info_int
  refine wpList_step fun K hK => ?_
  rw [if_pos hw]
  obtain ⟨q, cap, rfl, hr⟩ := hrow
  rcases q with _ | ad
  · obtain rfl : B = [] := by
      rcases List.eq_nil_or_concat B with h | ⟨B', b', h⟩
      · exact h
      · obtain ⟨_, _, h2, _⟩ := hr (by rw [h]; simp)
        cases h2
    obtain rfl : cap = 0 := hnil _ _ rfl
    have hrun := run_append_owned_none (P := Try.prog) (w := w) base 62 o.type 3 i0 1 Try.underlying62 hi v _ _ hown
    unfold Oper.wp
    simp [execOp, ho, resolve, invoke, builtin, hs, hx, hrun, Result.andThen]
    exact hK _ _ (h v w (by simpa using hown) ⟨rfl, rfl, rfl, Nat.le_refl _, fun _ _ _ => rfl⟩)
  · have hnews : ∀ j u, (B.map (Value.int .i64))[j]? = some u → w.cell? (ad.add j) = some u := by
      by_cases h0 : B = []
      · subst h0; intro j u hu; simp at hu
      · obtain ⟨b, off, h2, hc⟩ := hr h0
        cases h2
        exact RowOf.cells64 hc
    obtain ⟨v', w', hrun, h2, h3, _⟩ := run_append_own_at (P := Try.prog) w base 62 o.type 3 i0 (.int .i64 0) 1 8 Try.underlying62 hi hz0 hz1 hz2 rfl (by decide) v _ _ hown ad B.length cap (B.map (Value.int .i64)) (by simp) hnews (by simp [Value.oneCell']) (by unfold maxLen; omega) (by omega) hbase
    unfold Oper.wp execOp
    simp only [ho, resolve, invoke, builtin, Sem.run_bind, Sem.run_pure, Result.andThen_ok, List.map_toArray, List.map_cons, List.map_nil, hs, hx, hrun]
    exact hK _ _ (h v' w' (by simpa using h2) h3)
theorem own_later64 {w W : World} {base : Nat} {e : TypeId} {size n : Nat} {v : Value} {xs : List Value} (h : w.ownsRow base e size v n xs) (hb : Below w.heap.size w W) : W.ownsRow base e size v n xs :=
  h.kept (grown_of_below hb) (by cases hv : v.ownBlock <;> simp)
theorem own_nil64 {w : World} {base : Nat} {e : TypeId} {size n : Nat} {v : Value} {xs : List Value} (h : w.ownsRow base e size v n xs) : Hid (∀ l c, v = .slice none l c → c = 0) := by
  intro l c e
  rcases h.2 with ⟨h, _⟩ | ⟨g, cap, cur, h, _⟩
  · rw [h] at e; cases e; rfl
  · rw [h] at e; cases e

/-- The size in its box, and all that was in memory as it was. -/
def BZ (w w' : World) : Prop := Below w.heap.size w w'
theorem BZ.drew {w w' : World} (h : BZ w w') : BZ w w'.drew := Below.drew h
theorem row_first {w : World} {v : Value} {n f : Int} {N : Nat} (h : RowOf .i64 w v (first n f N)) (hN : 1 ≤ N) : ∃ g off cap, v = .slice (some ⟨g, off, none⟩) N cap ∧ ∀ k, k < N → w.cell? ⟨g, off + k, none⟩ = some (.int .i64 (step n f k)) := by
  obtain ⟨a, cap, rfl, hr⟩ := h
  rw [first_length] at hr ⊢
  obtain ⟨g, off, rfl, hc⟩ := hr (fun e => by have := congrArg List.length e; rw [first_length] at this; simp at this; omega)
  exact ⟨g, off, cap, rfl, fun k hk => by rw [hc k hk, first_get n f N k hk]⟩
theorem move_z (b0 : Nat) (r c a b n : Int) (W0 W : World) (hn : Hid (cells r c = n)) (n0 : 0 ≤ n) (n1 : n ≤ 4096)
    (h : W.cell? ⟨b0, 0, none⟩ = some (.int .i64 r) ∧ W.cell? ⟨b0, 1, none⟩ = some (.int .i64 c) ∧ BZ W0 W) :
    Calls Try.prog 47 #[.agg #[.int .i64 r, .int .i64 c], .int .i64 a, .int .i64 b] W fun e w' => e = .returned (.int .i64 (mv n a b)) ∧ (w'.cell? ⟨b0, 0, none⟩ = some (.int .i64 r) ∧ w'.cell? ⟨b0, 1, none⟩ = some (.int .i64 c) ∧ BZ W0 w') := by
  obtain ⟨h0, h1, h2⟩ := h
  exact (move_any r c a b n W hn n0 n1).mono fun _ _ ⟨he, hb⟩ => ⟨he, cell_later hb h0, cell_later hb h1, Below.trans h2 (hb.mono (Below.size h2))⟩
def RoRel (n f : Int) (N : Nat) (W0 : World) (i : Value) (wr : World) : Prop :=
  ∃ k : Nat, k ≤ N ∧ i = .int .i64 k ∧ wr.ownsMap Try.prog 3 (plainElem (H := Unit) Try.prog 4) W0.heap.size k (seenR n f k) ∧ Below W0.heap.size W0 wr

set_option maxRecDepth 100000 in
set_option maxHeartbeats 16000000 in
theorem rounds_main (r c fr tt a b n x y : Int) (N : Nat) (hn : Hid (cells r c = n)) (hN : Hid ((N : Int) = n)) (g0 : 1 ≤ n) (g1 : n ≤ 300) (hx : bits .and .i64 a 65535 = x) (x0 : 0 ≤ x) (x1 : x ≤ 65535) (hy : bits .and .i64 b 65535 = y) (y0 : 0 ≤ y) (y1 : y ≤ 65535) (w : World) :
    Calls Try.prog 12 #[.agg #[.int .i64 r, .int .i64 c], .int .i64 fr, .int .i64 tt, .int .i64 a, .int .i64 b] w fun e w' => e = .returned (.bool true) ∧ Below w.heap.size w w' := by
  have hfb := mv_bd n fr 0 (by omega)
  have htb := mv_bd n tt 0 (by omega)
  obtain ⟨f, hf⟩ : ∃ f, f = mv n fr 0 := ⟨_, rfl⟩
  obtain ⟨t, ht⟩ : ∃ t, t = mv n tt 0 := ⟨_, rfl⟩
  rw [← hf] at hfb
  rw [← ht] at htb
  have HF := Lib.hid hf.symm
  have HT := Lib.hid ht.symm
  obtain ⟨f0, f1⟩ := hfb
  obtain ⟨t0, t1⟩ := htb
  clear hf ht
  have hz : (n == 0) = false := by simp; omega
  go_enter Try.func12, Try.ntmps12
  go_wp2_with fail
  refine (alive2_any _).mono ?_
  rintro e w1 ⟨rfl, hb1⟩
  have B1 := below_box hb1
  obtain ⟨c0, c1⟩ := box_at hb1
  clear hb1
  go_wp2_with fail
  refine (cells_is r c n _ hn.out).mono ?_
  rintro e w2 ⟨rfl, hb2⟩
  have d0 := cell_later hb2 c0
  have d1 := cell_later hb2 c1
  have B2 : BZ w w2 := B1.trans (hb2.mono B1.size)
  clear hb2 B1 c0 c1
  go_upto_region 6 with fail
  go_cut [1, 2] from 26 to 32 (fun s1 s2 wx => s1 = .int .i64 f ∧ s2 = .int .i64 t ∧ wx.cell? ⟨w.heap.size, 0, none⟩ = some (.int .i64 r) ∧ wx.cell? ⟨w.heap.size, 1, none⟩ = some (.int .i64 c) ∧ BZ w wx)
  case first =>
    go_region_held3 (fun w' => w'.cell? ⟨w.heap.size, 0, none⟩ = some (.int .i64 r) ∧ w'.cell? ⟨w.heap.size, 1, none⟩ = some (.int .i64 c) ∧ BZ w w')
      (first | exact ⟨d0, d1, B2.drew⟩ | assumption | go_keep)
      (first | (go_at_call 47; refine (move_z _ r c _ _ n _ _ hn (by omega) (by omega) (by assumption)).mono ?_; rintro e w' ⟨rfl, hS⟩))
    all_goals (go_wp2_with fail; go_meet; exact ⟨congrArg _ HF.out, congrArg _ HT.out, hS⟩)
  case rest =>
    obtain ⟨rfl, rfl, e0, e1, B3⟩ := hcut
    have hbx : w.heap.size < wc.heap.size := World.block_lt_of_cell? _ _ e0
    clear d0 d1 B2
    have hN1 : 1 ≤ N := by have := hN.out; omega
    have hNn : n.toNat = N := by have := hN.out; omega
    have HNN := Lib.hid hNn
    clear hNn
    by_cases hft : f = t
    · have hne : (f != t) = false := by simp [hft]
      have HL : Hid ((betw n f t).take (400 : Int).toNat = first n f N) := by
        unfold Hid; rw [← HNN.out, ← hft]; exact rounds_one n f (by omega) f0 f1
      clear hft
      go_wp2_with fail
      refine (list_is r c f t n 400 (by omega) (by omega) _ hn).mono ?_
      rintro e w4 ⟨v, rfl, hv4, hb4⟩
      rw [HL.out] at hv4
      have h0 := cell_later hb4 e0
      have h1 := cell_later hb4 e1
      have B4 : BZ w w4 := Below.trans B3 (hb4.mono (Below.size B3))
      have hrow := RowOf.of_owns hv4
      clear hb4 e0 e1 B3 hv4
      obtain ⟨g, off, cap, rfl, hcell⟩ := row_first hrow hN1
      have HC := Lib.hid hcell
      clear hrow hcell
      have hmm : ∀ w : World, (Instr.makeMap 69 none).run Try.prog w = .ok (.map (some w.heap.size)) (w.alloc (.map #[] 0)) := fun _ => by kernel_rfl
      have hst : RoRel n f N w4 (.int .i64 0) (w4.alloc (.map #[] 0)) :=
        ⟨0, Nat.zero_le _, rfl, World.ownsMap_made w4 _ _ _, (Below.refl _ _).alloc (Nat.le_refl _) _⟩
      go_wp2_with fail
      go_loopw [64] (RoRel n f N w4) (fun i _ => N - (intOf i).toNat)
      case atStart => exact hst
      case round =>
        obtain ⟨k, hk, rfl, hown, hBw⟩ := hrel
        have k0 := cell_later hBw h0
        have k1 := cell_later hBw h1
        by_cases hlt : k < N
        · have hkN : (k : Int) < (N : Int) := by omega
          have hkn : (k : Int) < n := by have := hN.out; omega
          have hc := cell_later hBw (HC.out k hlt)
          have hsb := step_bd n f k (by omega)
          have hlook := look_new (key := .int .i64 (step n f k)) hown hkn (keyOf_int_mk Try.underlying3 (WalkArith.wf_i64 (by omega)))
          have hms := mv_step n f k (by omega)
          obtain ⟨x', hx'⟩ : ∃ x', x' = step n f k := ⟨_, rfl⟩
          rw [← hx'] at hc hlook hms hsb
          have HKEY : Hid (keyOf Try.prog 3 (.int .i64 x') = some (.int .i64 x')) := keyOf_int_mk Try.underlying3 (WalkArith.wf_i64 (by omega))
          have HMS := Lib.hid hms
          have HX := Lib.hid hx'
          clear hms hx' hsb
          go_wp2_with fail
          refine (to_int (move_any r c f k n _ hn (by omega) (by omega)) HMS.out).mono ?_
          rintro e w8 ⟨rfl, hb8⟩
          have hown8 := hown.kept (row := none) (grown_of_below hb8) (by simp)
          have hB8 := hBw.trans (hb8.mono hBw.size)
          clear hown hBw hb8 k0 k1
          go_wp2_with (at_mapUpdate; refine wpList_mapUpdate_own _ rfl _ _ _ 69 rfl 3 4 (int_keyed Try.underlying3) Try.underlying69 _ w4.heap.size k _ rfl hown8 (by unfold maxLen; omega) _ _ _ rfl rfl HKEY.out _ [] (plainElem_bool Try.underlying4 true) ?_; intro w9 hown9 hgrow9)
          go_roundw
          case rel =>
            refine ⟨k + 1, by omega, by go_num, ?_, hB8.grown hgrow9 hB8.size (fun j e => by cases e; exact Nat.le_refl _)⟩
            have e : seenR n f (k + 1) = (seenR n f k).put (.int .i64 x') (.lit (.bool true)) := by rw [HX.out]; rfl
            rw [e]; exact hown9
          case measure => simp [intOf]; omega
        · obtain rfl : N = k := by omega
          have BB : BZ w wr := Below.trans B4 (hBw.mono (Below.size B4))
          clear hown hBw hst B4 h0 h1
          have hnn : ((N : Int) == n) = true := by have := hN.out; simp [this]
          have hneg : IntKind.i64.wrap (-y) = -y := IntWalk.i64_in _ (by omega)
          have hsub : IntKind.i64.wrap (x - y) = x - y := IntWalk.i64_in _ (by omega)
          have hm1 := mv_round n f f0 f1
          have hm3 := mv_two n f x y (by omega)
          go_wp2_with fail
          go_region_held3 (fun w' => w'.cell? ⟨w.heap.size, 0, none⟩ = some (.int .i64 r) ∧ w'.cell? ⟨w.heap.size, 1, none⟩ = some (.int .i64 c) ∧ BZ w w')
            (first | exact ⟨k0, k1, BB.drew⟩ | assumption | go_keep)
            (first | (go_at_call 47; refine (move_z _ r c _ _ n _ _ hn (by omega) (by omega) (by assumption)).mono ?_; rintro e w' ⟨rfl, hS⟩))
          all_goals (go_wp2_with fail; go_ret; exact ⟨rfl, hS.2.2⟩)
    · have hne : (f != t) = true := by simp [hft]
      have HL : Hid ((betw n f t).take (400 : Int).toNat ++ (betw n t f).take (400 : Int).toNat = first n f N) := by
        unfold Hid; rw [← HNN.out]; exact rounds_two n f t (by omega) f0 f1 t0 t1 hft
      have HL1 : Hid (((betw n f t).take (400 : Int).toNat).length ≤ 400 ∧ ((betw n t f).take (400 : Int).toNat).length ≤ 400) := ⟨List.length_take_le _ _, List.length_take_le _ _⟩
      clear hft
      obtain ⟨L1, hL1⟩ : ∃ L, L = (betw n f t).take (400 : Int).toNat := ⟨_, rfl⟩
      obtain ⟨L2, hL2⟩ : ∃ L, L = (betw n t f).take (400 : Int).toNat := ⟨_, rfl⟩
      rw [← hL1, ← hL2] at HL HL1
      have HE := Lib.hid (And.intro hL1.symm hL2.symm)
      clear hL1 hL2
      go_wp2_with fail
      refine (list_is r c f t n 400 (by omega) (by omega) _ hn).mono ?_
      rintro e w4 ⟨v, rfl, hv4, hb4⟩
      rw [HE.out.1] at hv4
      have h0 := cell_later hb4 e0
      have h1 := cell_later hb4 e1
      have hs4 := hb4.size
      have B4 : BZ w w4 := Below.trans B3 (hb4.mono (Below.size B3))
      have hs3 := Below.size B3
      clear hb4 e0 e1 B3
      go_wp2_with fail
      refine (list_is r c t f n 400 (by omega) (by omega) _ hn).mono ?_
      rintro e w5 ⟨v2, rfl, hv5, hb5⟩
      rw [HE.out.2] at hv5
      have j0 := cell_later hb5 h0
      have j1 := cell_later hb5 h1
      have hs5 := hb5.size
      have B5 : BZ w w5 := Below.trans B4 (hb5.mono (Below.size B4))
      have hv45 := own_later64 hv4 hb5
      have hr5 := RowOf.of_owns hv5
      have hn5 := own_nil64 hv5
      clear hb5 h0 h1 B4 hv4 hv5
      have hmm : ∀ w : World, (Instr.makeMap 69 none).run Try.prog w = .ok (.map (some w.heap.size)) (w.alloc (.map #[] 0)) := fun _ => by kernel_rfl
      go_wp2_with (at_builtin; refine wpList_append_ints rfl _ _ rfl wc.heap.size _ L1 rfl hv45 _ L2 rfl hr5 hn5.out (by have := HL1.out; omega) (by omega) ?_; intro v3 w6 hv6 hg6; (rw [HL.out] at hv6; obtain ⟨g, off, cap, rfl, hcell⟩ := row_first (RowOf.of_owns hv6) hN1; have HC := Lib.hid hcell; clear hcell hv6))
      have hbox : w.heap.size < wc.heap.size := hbx
      have hne6 : some w.heap.size ≠ v.ownBlock := fun e => by have := (hv45.lt _ e.symm).1; omega
      have h0 : w6.cell? ⟨w.heap.size, 0, none⟩ = some (.int .i64 r) := (World.cell?_of_block (a := ⟨w.heap.size, 0, none⟩) (hg6.block _ (World.block_lt_of_cell? _ _ j0) hne6)).trans j0
      have h1 : w6.cell? ⟨w.heap.size, 1, none⟩ = some (.int .i64 c) := (World.cell?_of_block (a := ⟨w.heap.size, 1, none⟩) (hg6.block _ (World.block_lt_of_cell? _ _ j1) hne6)).trans j1
      have B6 : BZ w w6 := Below.grown B5 hg6 (Below.size B5) (fun k e => by have := (hv45.lt k e).1; omega)
      clear hne6 hbox hg6 j0 j1 B5 hv45 hr5 hn5 hs4 hs5
      have hmm : ∀ w : World, (Instr.makeMap 69 none).run Try.prog w = .ok (.map (some w.heap.size)) (w.alloc (.map #[] 0)) := fun _ => by kernel_rfl
      have hst : RoRel n f N w6 (.int .i64 0) (w6.alloc (.map #[] 0)) :=
        ⟨0, Nat.zero_le _, rfl, World.ownsMap_made w6 _ _ _, (Below.refl _ _).alloc (Nat.le_refl _) _⟩
      go_wp2_with fail
      go_loopw [64] (RoRel n f N w6) (fun i _ => N - (intOf i).toNat)
      case atStart => exact hst
      case round =>
        obtain ⟨k, hk, rfl, hown, hBw⟩ := hrel
        have k0 := cell_later hBw h0
        have k1 := cell_later hBw h1
        by_cases hlt : k < N
        · have hkN : (k : Int) < (N : Int) := by omega
          have hkn : (k : Int) < n := by have := hN.out; omega
          have hc := cell_later hBw (HC.out k hlt)
          have hsb := step_bd n f k (by omega)
          have hlook := look_new (key := .int .i64 (step n f k)) hown hkn (keyOf_int_mk Try.underlying3 (WalkArith.wf_i64 (by omega)))
          have hms := mv_step n f k (by omega)
          obtain ⟨x', hx'⟩ : ∃ x', x' = step n f k := ⟨_, rfl⟩
          rw [← hx'] at hc hlook hms hsb
          have HKEY : Hid (keyOf Try.prog 3 (.int .i64 x') = some (.int .i64 x')) := keyOf_int_mk Try.underlying3 (WalkArith.wf_i64 (by omega))
          have HMS := Lib.hid hms
          have HX := Lib.hid hx'
          clear hms hx' hsb
          go_wp2_with fail
          refine (to_int (move_any r c f k n _ hn (by omega) (by omega)) HMS.out).mono ?_
          rintro e w8 ⟨rfl, hb8⟩
          have hown8 := hown.kept (row := none) (grown_of_below hb8) (by simp)
          have hB8 := hBw.trans (hb8.mono hBw.size)
          clear hown hBw hb8 k0 k1
          go_wp2_with (at_mapUpdate; refine wpList_mapUpdate_own _ rfl _ _ _ 69 rfl 3 4 (int_keyed Try.underlying3) Try.underlying69 _ w6.heap.size k _ rfl hown8 (by unfold maxLen; omega) _ _ _ rfl rfl HKEY.out _ [] (plainElem_bool Try.underlying4 true) ?_; intro w9 hown9 hgrow9)
          go_roundw
          case rel =>
            refine ⟨k + 1, by omega, by go_num, ?_, hB8.grown hgrow9 hB8.size (fun j e => by cases e; exact Nat.le_refl _)⟩
            have e : seenR n f (k + 1) = (seenR n f k).put (.int .i64 x') (.lit (.bool true)) := by rw [HX.out]; rfl
            rw [e]; exact hown9
          case measure => simp [intOf]; omega
        · obtain rfl : N = k := by omega
          have BB : BZ w wr := Below.trans B6 (hBw.mono (Below.size B6))
          clear hown hBw hst B6 h0 h1
          have hnn : ((N : Int) == n) = true := by have := hN.out; simp [this]
          have hneg : IntKind.i64.wrap (-y) = -y := IntWalk.i64_in _ (by omega)
          have hsub : IntKind.i64.wrap (x - y) = x - y := IntWalk.i64_in _ (by omega)
          have hm1 := mv_round n f f0 f1
          have hm3 := mv_two n f x y (by omega)
          go_wp2_with fail
          go_region_held3 (fun w' => w'.cell? ⟨w.heap.size, 0, none⟩ = some (.int .i64 r) ∧ w'.cell? ⟨w.heap.size, 1, none⟩ = some (.int .i64 c) ∧ BZ w w')
            (first | exact ⟨k0, k1, BB.drew⟩ | assumption | go_keep)
            (first | (go_at_call 47; refine (move_z _ r c _ _ n _ _ hn (by omega) (by omega) (by assumption)).mono ?_; rintro e w' ⟨rfl, hS⟩))
          all_goals (go_wp2_with fail; go_ret; exact ⟨rfl, hS.2.2⟩)

theorem addrRounds_walk (r c : Int) (hr : (Lit.int .i64 r).wf = true) (hc : (Lit.int .i64 c).wf = true) (fr : Int) (hf : (Lit.int .i64 fr).wf = true) (tt : Int) (ht : (Lit.int .i64 tt).wf = true) (a : Int) (ha : (Lit.int .i64 a).wf = true) (b : Int) (hb : (Lit.int .i64 b).wf = true) (w : World) :
    Calls Try.prog 12 #[.agg #[.int .i64 r, .int .i64 c], .int .i64 fr, .int .i64 tt, .int .i64 a, .int .i64 b] w fun e w' => e = .returned (.bool true) ∧ Below w.heap.size w w' := by
  clear hr hc hf ht ha hb
  obtain ⟨n, hn⟩ : ∃ n, cells r c = n := ⟨_, rfl⟩
  have hbd := cells_bd r c
  rw [hn] at hbd
  obtain ⟨n0, n1⟩ := hbd
  have HN := Lib.hid hn
  clear hn
  by_cases h0 : n = 0
  · subst h0
    go_enter Try.func12, Try.ntmps12
    go_wp2_with fail
    refine (alive2_any _).mono ?_
    rintro e w1 ⟨rfl, hb1⟩
    have B1 := below_box hb1
    obtain ⟨c0, c1⟩ := box_at hb1
    clear hb1
    go_wp2_with fail
    refine (cells_is r c 0 _ HN.out).mono ?_
    rintro e w2 ⟨rfl, hb2⟩
    have B2 := B1.trans (hb2.mono B1.size)
    go_wp2_with fail
    go_ret
    exact ⟨rfl, B2⟩
  · by_cases h1 : 300 < n
    · have hz : (n == 0) = false := by simp; omega
      clear h0
      go_enter Try.func12, Try.ntmps12
      go_wp2_with fail
      refine (alive2_any _).mono ?_
      rintro e w1 ⟨rfl, hb1⟩
      have B1 := below_box hb1
      obtain ⟨c0, c1⟩ := box_at hb1
      clear hb1
      go_wp2_with fail
      refine (cells_is r c n _ HN.out).mono ?_
      rintro e w2 ⟨rfl, hb2⟩
      have B2 := B1.trans (hb2.mono B1.size)
      go_wp2_with fail
      go_ret
      exact ⟨rfl, B2⟩
    · exact rounds_main r c fr tt a b n _ _ n.toNat HN (by unfold Hid; omega) (by omega) (by omega) (and65535 a) (Int.emod_nonneg _ (by omega)) (by have := Int.emod_lt_of_pos a (show (0 : Int) < 65536 by omega); omega) (and65535 b) (Int.emod_nonneg _ (by omega)) (by have := Int.emod_lt_of_pos b (show (0 : Int) < 65536 by omega); omega) w

end Go.Proofs.Ytpmcpllcfmgpgaa
