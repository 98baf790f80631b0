/-
  The walk of MailPlays.
-/
import Derived.Test.YtndhhpiklaffoaaMailPlaysC
import Derived.Deep.CutBlock
import Derived.Deep.DeepCutAuto
import Derived.Deep.RegionHeld3
import Derived.BigQuiet
namespace Go.Proofs.Ytndhhpiklaffoaa.Mail
open Go.RowKit
open Clock (heap_set)
set_option linter.unusedVariables false

theorem MQ.kf {s g t r1 r2 : Nat} {w W : World} {A1 A2 X1 X2 : List Int} {c1 c2 d1 d2 : Bool} {u1 u2 : Value} (h : MQ s g t w r1 r2 A1 c1 A2 c2 X1 d1 u1 X2 d2 u2 W) :
    W.cell? ⟨g, 0, none⟩ = some (.pointer (some ⟨s + 1, 0, none⟩)) ∧ W.cell? ⟨g, 1, none⟩ = some (.pointer (some ⟨s + 2 + 1, 0, none⟩)) ∧ W.cell? ⟨t, 0, none⟩ = some u1 ∧ W.cell? ⟨t, 1, none⟩ = some (.int .i64 r1) ∧ W.cell? ⟨t, 2, none⟩ = some (.bool d1) ∧ W.cell? ⟨t, 3, none⟩ = some u2 ∧ W.cell? ⟨t, 4, none⟩ = some (.int .i64 r2) ∧ W.cell? ⟨t, 5, none⟩ = some (.bool d2) ∧ MQ s g t w r1 r2 A1 c1 A2 c2 X1 d1 u1 X2 d2 u2 W := by
  obtain ⟨h1, h2, h3, h4, h5, h6, h7, h8, _⟩ := h.facts
  exact ⟨h1, h2, h3, h4, h5, h6, h7, h8, h⟩
theorem MQ.drew {s g t r1 r2 : Nat} {w W : World} {A1 A2 X1 X2 : List Int} {c1 c2 d1 d2 : Bool} {u1 u2 : Value} (h : MQ s g t w r1 r2 A1 c1 A2 c2 X1 d1 u1 X2 d2 u2 W) : MQ s g t w r1 r2 A1 c1 A2 c2 X1 d1 u1 X2 d2 u2 W.drew := h.drewN 1
theorem MQ.of_s {s g t r1 r2 : Nat} {w W : World} {A1 A2 X1 X2 : List Int} {c1 c2 d1 d2 : Bool} {u1 u2 : Value} (h : W.cell? ⟨g, 0, none⟩ = some (.pointer (some ⟨s + 1, 0, none⟩)) ∧ W.cell? ⟨g, 1, none⟩ = some (.pointer (some ⟨s + 2 + 1, 0, none⟩)) ∧ W.cell? ⟨t, 0, none⟩ = some u1 ∧ W.cell? ⟨t, 1, none⟩ = some (.int .i64 r1) ∧ W.cell? ⟨t, 2, none⟩ = some (.bool d1) ∧ W.cell? ⟨t, 3, none⟩ = some u2 ∧ W.cell? ⟨t, 4, none⟩ = some (.int .i64 r2) ∧ W.cell? ⟨t, 5, none⟩ = some (.bool d2) ∧ MQ s g t w r1 r2 A1 c1 A2 c2 X1 d1 u1 X2 d2 u2 W) : MQ s g t w r1 r2 A1 c1 A2 c2 X1 d1 u1 X2 d2 u2 W := h.2.2.2.2.2.2.2.2
theorem rroom_at (S : Nat → Prop) (r : Nat) (u : Value) (sh : Bool) (xs : List Int) (w : World) (h : RowFrom S w u xs) (h1 : r ≤ 1024) :
    Calls Try.prog 17 #[.agg #[u, .int .i64 r, .bool sh]] w fun e w' => e = .returned (.int .i64 (roomL r xs sh)) ∧ Below w.heap.size w w' :=
  rroom_any r u sh xs S w h (by omega) (by omega)
theorem Even.below {s g t r1 r2 : Nat} {w W W' : World} (h : Even s g t w r1 r2 W) (u : Below W.heap.size W W') : Even s g t w r1 r2 W' := by
  obtain ⟨A1, c1, A2, c2, u1, u2, h⟩ := h
  exact ⟨A1, c1, A2, c2, u1, u2, h.below u⟩
theorem Even.alloc {s g t r1 r2 : Nat} {w W : World} (h : Even s g t w r1 r2 W) (o : Obj) : Even s g t w r1 r2 (W.alloc o) := h.below ((Below.refl _ W).alloc (Nat.le_refl _) o)
def PlaysRel (s g t n : Nat) (w : World) (r1 r2 : Nat) (i : Value) (wr : World) : Prop := ∃ k : Nat, k ≤ n ∧ i = .int .i64 k ∧ Even s g t w r1 r2 wr
theorem MQ.kc {s g t r1 r2 : Nat} {w W : World} {A1 A2 X1 X2 : List Int} {c1 c2 d1 d2 : Bool} {u1 u2 : Value} (h : MQ s g t w r1 r2 A1 c1 A2 c2 X1 d1 u1 X2 d2 u2 W) :
    W.cell? ⟨g, 0, none⟩ = some (.pointer (some ⟨s + 1, 0, none⟩)) ∧ W.cell? ⟨g, 1, none⟩ = some (.pointer (some ⟨s + 2 + 1, 0, none⟩)) ∧ W.cell? ⟨t, 0, none⟩ = some u1 ∧ W.cell? ⟨t, 3, none⟩ = some u2 := by
  obtain ⟨h1, h2, h3, h4, h5, h6, h7, h8, _⟩ := h.facts
  exact ⟨h1, h2, h3, h6⟩
/-- What is taken of the first queue, and of the second. -/
structure Took (v : Value) (L : List Int) (W : World) : Prop where
  row : RowOf .i64 W v L
theorem Took.at {s : Nat} {w W : World} {v : Value} {L : List Int} {room q : Nat} (h : W.ownsRow w.heap.size 3 1 v (L.take q).length ((L.take q).map (Value.int .i64))) (hl : L.length ≤ q) : Took v L W := by
  rw [List.take_of_length_le hl] at h
  exact ⟨RowOf.of_owns h⟩
theorem taken_most (c room : Nat) (xs : List Int) (shut : Bool) (w : World) (h : QAt w c room xs shut) :
    Calls Try.prog 20 #[.pointer (some ⟨c + 1, 0, none⟩), .int .i64 2000] w fun e W' =>
      ∃ v, e = .returned v ∧ W'.ownsRow w.heap.size 3 1 v (xs.take 2000).length ((xs.take 2000).map (Value.int .i64)) ∧ QAt W' c room (xs.drop 2000) shut ∧ Turn (Of c) w W' :=
  taken_any c room xs shut 2000 (by omega) (by omega) w h
theorem mq_new {s r1 r2 : Nat} {w1 w2 w3 w5 W0 : World} (hs : s = w1.heap.size) (Q1 : QAt w2 w1.heap.size r1 [] false) (B2 : Below w1.heap.size w1 w2) (z2 : w2.heap.size = s + 2) (Q2 : QAt w3 (s + 2) r2 [] false) (B3 : Below w2.heap.size w2 w3) (z3 : w3.heap.size = s + 4)
    (B5 : Below (w3.alloc (.cells #[.pointer (some ⟨s + 1, 0, none⟩), .pointer (some ⟨s + 2 + 1, 0, none⟩)] 24)).heap.size (w3.alloc (.cells #[.pointer (some ⟨s + 1, 0, none⟩), .pointer (some ⟨s + 2 + 1, 0, none⟩)] 24)) w5)
    (hW : W0 = w5.alloc (.cells #[.slice none 0 0, .int .i64 r1, .bool false, .slice none 0 0, .int .i64 r2, .bool false] 29)) :
    MQ s (s + 4) w5.heap.size w1 r1 r2 [] false [] false [] false (.slice none 0 0) [] false (.slice none 0 0) W0 := by
  have hsz := B5.size
  rw [← hs] at Q1
  rw [World.size_alloc, z3] at B5 hsz
  have b0 : Below w5.heap.size w5 W0 := by rw [hW]; exact (Below.refl _ w5).alloc (Nat.le_refl _) _
  have q1 := ((Q1.below B3 (by omega)).below ((Below.refl _ w3).alloc (Nat.le_refl _) (.cells #[.pointer (some ⟨s + 1, 0, none⟩), .pointer (some ⟨s + 2 + 1, 0, none⟩)] 24)) (by omega)).below B5 (by omega)
  have q2 := (Q2.below ((Below.refl _ w3).alloc (Nat.le_refl _) (.cells #[.pointer (some ⟨s + 1, 0, none⟩), .pointer (some ⟨s + 2 + 1, 0, none⟩)] 24)) (by omega)).below B5 (by omega)
  have p := heap_alloc_new w3 (.cells #[.pointer (some ⟨s + 1, 0, none⟩), .pointer (some ⟨s + 2 + 1, 0, none⟩)] 24)
  rw [z3] at p
  refine ⟨q1.below b0 (by omega), q2.below b0 (by omega), (b0.block (s + 4) (by omega)).trans ((B5.block (s + 4) (by omega)).trans p), by rw [hW]; exact heap_alloc_new w5 _, RowFrom.nil, RowFrom.nil, ?_, by omega, by omega⟩
  have c1 : Below s w1 w3 := by rw [hs]; exact B2.trans (B3.mono B2.size)
  exact ((c1.alloc (by omega) _).trans (B5.mono (by omega))).trans (b0.mono (by omega))
set_option maxRecDepth 100000 in
set_option maxHeartbeats 8000000 in
theorem mailPlays_walk (hstep : ∀ (s g t : Nat) (w W : World) (r1 r2 : Nat) (i : Int) (hi : i = 0 ∨ i = 1) (kind x : Int) (oth : Bool) (h : Even s g t w r1 r2 W), Calls Try.prog 14 #[.slice (some ⟨g, 0, none⟩) 2 2, .slice (some ⟨t, 0, none⟩) 2 2, .int .i64 i, .agg #[.int .i64 kind, .int .i64 x, .bool oth]] W fun e W' => e = .returned (.bool true) ∧ Even s g t w r1 r2 W')
    (a b : Int) (v : Value) (ops : List (Int × Int × Bool)) (w : World) (hv : Open.OpsAt w v ops) (hm : ops.length ≤ maxLen) :
    Calls Try.prog 3 #[.int .i64 a, .int .i64 b, v] w fun e W' => e = .returned (.bool true) ∧ Below w.heap.size w W' := by
  obtain ⟨ad, cap, rfl, ha⟩ := hv
  obtain ⟨n, hn⟩ : ∃ n, n = ops.length := ⟨_, rfl⟩
  rw [← hn] at hm ⊢
  unfold maxLen at hm
  have HA := Lib.hid ha
  have HN := Lib.hid hn
  have HST := Lib.hid hstep
  clear ha hn hstep
  by_cases hbig : 80 < n
  · have hd : decide ((80 : Int) < (n : Int)) = true := by simp; omega
    go_enter Try.func3, Try.ntmps3
    go_wp2_with (go_at_call 11; refine (alive_any _).mono ?_; rintro e w' ⟨rfl, hb⟩)
    go_ret
    exact ⟨rfl, hb⟩
  · have hle : n ≤ 80 := by omega
    have hd : decide ((80 : Int) < (n : Int)) = false := by simp; omega
    clear hbig
    go_enter Try.func3, Try.ntmps3
    go_wp2_with (go_at_call 11; refine (alive_any _).mono ?_; rintro e w1 ⟨rfl, hb1⟩)
    refine (new_any a w1).mono ?_
    rintro e w2 ⟨rfl, Q1, B2, z2⟩
    have HQ1 := Lib.hid Q1
    have HB2 := Lib.hid B2
    have HZ2 := Lib.hid z2
    clear Q1 B2 z2
    go_wp2_with fail
    refine (new_any b w2).mono ?_
    rintro e w3 ⟨rfl, Q2, B3, z3⟩
    have HQ2 := Lib.hid Q2
    have HB3 := Lib.hid B3
    have HZ3 := Lib.hid z3
    clear Q2 B3 z3
    go_wp2_with fail
    obtain ⟨s, hs⟩ : ∃ s, s = w1.heap.size := ⟨_, rfl⟩
    have HZ2' : w2.heap.size = s + 2 := by rw [HZ2.out, hs]
    have HZ3' : w3.heap.size = s + 4 := by rw [HZ3.out, HZ2']
    rw [← hs, HZ2'] 
    obtain ⟨wA, hwA⟩ : ∃ wA, wA = w3.alloc (.cells #[.pointer (some ⟨s + 1, 0, none⟩), .pointer (some ⟨s + 2 + 1, 0, none⟩)] 24) := ⟨_, rfl⟩
    rw [← hwA]
    have HS := Lib.hid hs
    have HZA := Lib.hid HZ2'
    have HZB := Lib.hid HZ3'
    have HWA := Lib.hid hwA
    clear HZ2' HZ3' hwA hs
    refine (rnew_any a wA).mono ?_
    rintro e w4 ⟨rfl, B4⟩
    have HB4 := Lib.hid B4
    clear B4
    go_wp2_with fail
    refine (rnew_any b w4).mono ?_
    rintro e w5 ⟨rfl, B5⟩
    have HB5 := Lib.hid (HB4.out.trans (B5.mono HB4.out.size))
    clear B5 HB4
    go_wp2_with fail
    rw [HZB.out]
    obtain ⟨W0, hW0⟩ : ∃ W0, W0 = w5.alloc (.cells #[.slice none 0 0, .int .i64 (roomOf a), .bool false, .slice none 0 0, .int .i64 (roomOf b), .bool false] 29) := ⟨_, rfl⟩
    rw [← hW0]
    obtain ⟨t, ht⟩ : ∃ t, t = w5.heap.size := ⟨_, rfl⟩
    rw [← ht]
    have hsz5 : s + 5 ≤ w5.heap.size := by
      have := HB5.out.size
      rw [HWA.out, World.size_alloc, HZB.out] at this
      omega
    have M0 := mq_new (W0 := W0) HS.out HQ1.out HB2.out HZA.out (by have := HQ2.out; rw [HZA.out] at this; exact this) HB3.out HZB.out (by rw [← HWA.out]; exact HB5.out) hW0
    rw [← ht] at M0
    have E0 : Even s (s + 4) t w1 (roomOf a) (roomOf b) W0 := ⟨_, _, _, _, _, _, M0⟩
    have HE0 := Lib.hid E0
    obtain ⟨r1, hr1⟩ : ∃ r1, r1 = roomOf a := ⟨_, rfl⟩
    obtain ⟨r2, hr2⟩ : ∃ r2, r2 = roomOf b := ⟨_, rfl⟩
    rw [← hr1, ← hr2] at HE0
    rw [← hr1, ← hr2]
    have hsw : w.heap.size ≤ s := by rw [HS.out]; exact hb1.size
    have HB1 := Lib.hid hb1
    clear hd M0 E0 hW0 ht hr1 hr2 hsz5 HB5 HWA HZB HZA HQ1 HQ2 HB2 HB3 HZ2 HZ3 hb1
    go_loopw [30] (fun i wr => PlaysRel s (s + 4) t n w1 r1 r2 i wr) (fun i _ => n - (intOf i).toNat)
    case atStart => exact ⟨0, by omega, rfl, HE0.out⟩
    case round =>
      obtain ⟨k, hk, rfl, E⟩ := hrel
      have HE := Lib.hid E
      clear E HE0
      by_cases hkn : k < n
      · obtain ⟨g, off, rfl, hgw, hcells⟩ := HA.out (by intro e; have := HN.out; rw [e] at this; simp at this; omega)
        obtain ⟨q, hq⟩ : ∃ q, ops[k]? = some q := ⟨_, List.getElem?_eq_getElem (by have := HN.out; omega)⟩
        obtain ⟨kind, x, oth⟩ := q
        obtain ⟨A1, c1, A2, c2, u1, u2, M⟩ := HE.out
        have hbw := HB1.out.trans (M.old.mono hsw)
        obtain ⟨d0, d1, d2⟩ := hcells k kind x oth hq
        have d0 := (hbw.cell (p := ⟨g, off + k * 3, none⟩) hgw).trans d0
        have d1 := (hbw.cell (p := ⟨g, off + k * 3 + 1, none⟩) hgw).trans d1
        have d2 := (hbw.cell (p := ⟨g, off + k * 3 + 2, none⟩) hgw).trans d2
        clear hcells hq hbw M
        go_upto_if 35 with fail
        go_cut [11] (fun v wx => (v = .int .i64 0 ∨ v = .int .i64 1) ∧ wx = wr.alloc (.cells #[.int .i64 kind, .int .i64 x, .bool oth] 33))
        case first =>
          cases oth
          · go_wp2
            go_meet
            exact ⟨.inl rfl, rfl⟩
          · go_wp2
            go_meet
            exact ⟨.inr rfl, rfl⟩
        case rest =>
          obtain ⟨hv, rfl⟩ := hcut
          obtain ⟨ii, rfl, hii⟩ : ∃ ii : Int, _ = Value.int .i64 ii ∧ (ii = 0 ∨ ii = 1) := by
            rcases hv with h | h
            · exact ⟨0, h, .inl rfl⟩
            · exact ⟨1, h, .inr rfl⟩
          clear hv d0 d1 d2
          go_wp2_with fail
          refine (HST.out s (s + 4) t w1 _ r1 r2 _ hii kind x _ (HE.out.alloc _)).mono ?_
          rintro e w6 ⟨rfl, E6⟩
          have HE6 := Lib.hid E6
          clear HE E6
          go_wp2_with fail
          go_loopw [44] (fun i wr => ∃ j : Int, (j = 0 ∨ j = 1 ∨ j = 2) ∧ i = .int .i64 j ∧ Even s (s + 4) t w1 r1 r2 wr) (fun i _ => 2 - (intOf i).toNat)
          case atStart => exact ⟨0, .inl rfl, rfl, HE6.out⟩
          case round =>
            obtain ⟨j, hj, rfl, E7⟩ := hrel
            clear HE6
            rcases hj with rfl | rfl | rfl
            · obtain ⟨A1, c1, A2, c2, u1, u2, M⟩ := E7
              obtain ⟨va, vc, hv1, hx1⟩ := id M.v1
              obtain ⟨wa, wc, hv2, hx2⟩ := id M.v2
              clear hx1 hx2
              obtain ⟨n1, hn1⟩ : ∃ n1, n1 = A1.length := ⟨_, rfl⟩
              obtain ⟨n2, hn2⟩ : ∃ n2, n2 = A2.length := ⟨_, rfl⟩
              rw [← hn1] at hv1
              rw [← hn2] at hv2
              subst hv1 hv2
              have HM := Lib.hid M
              have HN1 := Lib.hid hn1.symm
              have kf := M.kf
              have hr1024 := M.q1.most
              clear M hn1 hn2
              have hcase : (c1 = false ∧ (c1 && A1.isEmpty) = false) ∨ (c1 = true ∧ ((n1 : Int) == 0) = true ∧ (c1 && A1.isEmpty) = true) ∨ (c1 = true ∧ ((n1 : Int) == 0) = false ∧ (c1 && A1.isEmpty) = false) := by
                cases c1 with
                | false => exact .inl ⟨rfl, rfl⟩
                | true =>
                  have hl := HN1.out
                  cases A1 with
                  | nil => exact .inr (.inl ⟨rfl, by rw [← hl]; rfl, rfl⟩)
                  | cons a l => exact .inr (.inr ⟨rfl, by rw [← hl]; simp; omega, rfl⟩)
              obtain ⟨rm, hrm⟩ : ∃ rm, rm = roomL r1 A1 c1 := ⟨_, rfl⟩
              have HRM := Lib.hid hrm
              clear hrm
              go_upto_region 18 with fail
              go_cut [93] from 47 to 93 (fun v wx => v = .bool false ∧ Even s (s + 4) t w1 r1 r2 wx)
              case first =>
                rcases hcase with ⟨hc, hov⟩ | ⟨hc, hn0, hov⟩ | ⟨hc, hn0, hov⟩
                · subst hc
                  have HOV := Lib.hid hov
                  clear hov
                  refine wp_region_held_drew (S := (fun W => W.cell? ⟨s + 4, 0, none⟩ = some (.pointer (some ⟨s + 1, 0, none⟩)) ∧ W.cell? ⟨s + 4, 1, none⟩ = some (.pointer (some ⟨s + 2 + 1, 0, none⟩)) ∧ W.cell? ⟨t, 0, none⟩ = some (.slice va n1 vc) ∧ W.cell? ⟨t, 1, none⟩ = some (.int .i64 r1) ∧ W.cell? ⟨t, 2, none⟩ = some (.bool false) ∧ W.cell? ⟨t, 3, none⟩ = some (.slice wa n2 wc) ∧ W.cell? ⟨t, 4, none⟩ = some (.int .i64 r2) ∧ W.cell? ⟨t, 5, none⟩ = some (.bool c2) ∧ MQ s (s + 4) t w1 r1 r2 A1 false A2 c2 A1 false (.slice va n1 vc) A2 c2 (.slice wa n2 wc) W)) (by kernel_rfl) (MQ.kf (MQ.drew HM.out)) (fun hHeld => ?_)
                  refine wpAnyH_take (i := 0) (oi := { dst := some 47, op := Op.move (Operand.tmp 7), type := 26, pos := "law.go:70", after := #[], guard := none }) (v := ?_) rfl (by kernel_rfl) (by kernel_rfl) (by kernel_rfl) (fun _ _ _ h => h) (Or.inl ⟨by rfl, ?_⟩) (by assumption) ?_
                  rotate_left
                  focus (intro w hSw; (try dsimp only at hSw); go_simp; try (with_reducible rfl))
                  try simp only [Act.put, List.setIfInBounds_toArray, List.set_cons_zero, List.set_cons_succ]
                  refine wpAnyH_take (i := 1) (oi := { dst := some 48, op := Op.move (Operand.tmp 12), type := 3, pos := "law.go:70", after := #[], guard := none }) (v := ?_) rfl (by kernel_rfl) (by kernel_rfl) (by kernel_rfl) (fun _ _ _ h => h) (Or.inl ⟨by rfl, ?_⟩) (by assumption) ?_
                  rotate_left
                  focus (intro w hSw; (try dsimp only at hSw); go_simp; try (with_reducible rfl))
                  try simp only [Act.put, List.setIfInBounds_toArray, List.set_cons_zero, List.set_cons_succ]
                  refine wpAnyH_take (i := 2) (oi := { dst := some 49, op := Op.indexAddr 26 (Operand.tmp 47) (Operand.tmp 48), type := 0, pos := "law.go:70", after := #[{ on := 0, ground := Ground.data }, { on := 1, ground := Ground.data }], guard := none }) (v := ?_) rfl (by kernel_rfl) (by kernel_rfl) (by kernel_rfl) (fun _ _ _ h => h) (Or.inl ⟨by rfl, ?_⟩) (by assumption) ?_
                  rotate_left
                  focus (intro w hSw; (try dsimp only at hSw); go_simp; try (with_reducible rfl))
                  try simp only [Act.put, List.setIfInBounds_toArray, List.set_cons_zero, List.set_cons_succ]
                  refine wpAnyH_take (i := 3) (oi := { dst := some 50, op := Op.load 24 (Operand.tmp 49), type := 24, pos := "law.go:70", after := #[{ on := 2, ground := Ground.data }], guard := none }) (v := ?_) rfl (by kernel_rfl) (by kernel_rfl) (by kernel_rfl) (fun _ _ _ h => h) (Or.inl ⟨by rfl, ?_⟩) (by assumption) ?_
                  rotate_left
                  focus (intro w hSw; (try dsimp only at hSw); go_simp; try (with_reducible rfl))
                  try simp only [Act.put, List.setIfInBounds_toArray, List.set_cons_zero, List.set_cons_succ]
                  refine wpAnyH_take (i := 5) (oi := { dst := some 52, op := Op.move (Operand.tmp 8), type := 31, pos := "law.go:70", after := #[], guard := none }) (v := ?_) rfl (by kernel_rfl) (by kernel_rfl) (by kernel_rfl) (fun _ _ _ h => h) (Or.inl ⟨by rfl, ?_⟩) (by assumption) ?_
                  rotate_left
                  focus (intro w hSw; (try dsimp only at hSw); go_simp; try (with_reducible rfl))
                  try simp only [Act.put, List.setIfInBounds_toArray, List.set_cons_zero, List.set_cons_succ]
                  refine wpAnyH_take (i := 6) (oi := { dst := some 53, op := Op.move (Operand.tmp 12), type := 3, pos := "law.go:70", after := #[], guard := none }) (v := ?_) rfl (by kernel_rfl) (by kernel_rfl) (by kernel_rfl) (fun _ _ _ h => h) (Or.inl ⟨by rfl, ?_⟩) (by assumption) ?_
                  rotate_left
                  focus (intro w hSw; (try dsimp only at hSw); go_simp; try (with_reducible rfl))
                  try simp only [Act.put, List.setIfInBounds_toArray, List.set_cons_zero, List.set_cons_succ]
                  refine wpAnyH_take (i := 7) (oi := { dst := some 54, op := Op.indexAddr 31 (Operand.tmp 52) (Operand.tmp 53), type := 0, pos := "law.go:70", after := #[{ on := 5, ground := Ground.data }, { on := 6, ground := Ground.data }], guard := none }) (v := ?_) rfl (by kernel_rfl) (by kernel_rfl) (by kernel_rfl) (fun _ _ _ h => h) (Or.inl ⟨by rfl, ?_⟩) (by assumption) ?_
                  rotate_left
                  focus (intro w hSw; (try dsimp only at hSw); go_simp; try (with_reducible rfl))
                  try simp only [Act.put, List.setIfInBounds_toArray, List.set_cons_zero, List.set_cons_succ]
                  refine wpAnyH_take (i := 8) (oi := { dst := some 55, op := Op.fieldAddr 29 (Operand.tmp 54) 0, type := 0, pos := "law.go:70", after := #[{ on := 7, ground := Ground.data }], guard := none }) (v := ?_) rfl (by kernel_rfl) (by kernel_rfl) (by kernel_rfl) (fun _ _ _ h => h) (Or.inl ⟨by rfl, ?_⟩) (by assumption) ?_
                  rotate_left
                  focus (intro w hSw; (try dsimp only at hSw); go_simp; try (with_reducible rfl))
                  try simp only [Act.put, List.setIfInBounds_toArray, List.set_cons_zero, List.set_cons_succ]
                  refine wpAnyH_take (i := 9) (oi := { dst := some 56, op := Op.load 27 (Operand.tmp 55), type := 27, pos := "law.go:70", after := #[{ on := 8, ground := Ground.data }], guard := none }) (v := ?_) rfl (by kernel_rfl) (by kernel_rfl) (by kernel_rfl) (fun _ _ _ h => h) (Or.inl ⟨by rfl, ?_⟩) (by assumption) ?_
                  rotate_left
                  focus (intro w hSw; (try dsimp only at hSw); go_simp; try (with_reducible rfl))
                  try simp only [Act.put, List.setIfInBounds_toArray, List.set_cons_zero, List.set_cons_succ]
                  refine wpAnyH_take (i := 10) (oi := { dst := some 57, op := Op.call { callee := Callee.builtin Builtin.len, args := #[Operand.tmp 56], argTypes := #[27] }, type := 3, pos := "law.go:70", after := #[{ on := 9, ground := Ground.data }], guard := none }) (v := ?_) rfl (by kernel_rfl) (by kernel_rfl) (by kernel_rfl) (fun _ _ _ h => h) (Or.inl ⟨by rfl, ?_⟩) (by assumption) ?_
                  rotate_left
                  focus (intro w hSw; (try dsimp only at hSw); go_simp; try (with_reducible rfl))
                  try simp only [Act.put, List.setIfInBounds_toArray, List.set_cons_zero, List.set_cons_succ]
                  refine wpAnyH_ready (rs := [4]) (by kernel_rfl) (by simp) (AllReadyH.cons (o := { dst := some 51, op := Op.call { callee := Callee.value (Operand.func 15), args := #[Operand.tmp 50], argTypes := #[24] }, type := 3, pos := "law.go:70", after := #[{ on := 3, ground := Ground.data }], guard := none }) rfl (fun K hK => ?_) AllReadyH.nil)
                  go_simp
                  (go_at_call 15; refine (len_any s r1 A1 false _ (MQ.q1 (MQ.of_s (by assumption)))).mono ?_; rintro e w8 ⟨rfl, rfl⟩; rw [HN1.out])
                  go_wp2_with fail
                  refine hK.out _ _ (by assumption) (fun hHeld => ?_)
                  clear hK K
                  try simp only [Act.put, List.setIfInBounds_toArray, List.set_cons_zero, List.set_cons_succ]
                  refine wpAnyH_take (i := 11) (oi := { dst := some 58, op := Op.binOp BinOp.neq 3 (Operand.tmp 51) (Operand.tmp 57) 3, type := 4, pos := "law.go:70", after := #[{ on := 4, ground := Ground.data }, { on := 10, ground := Ground.data }], guard := none }) (v := ?_) rfl (by kernel_rfl) (by kernel_rfl) (by kernel_rfl) (fun _ _ _ h => h) (Or.inl ⟨by rfl, ?_⟩) (by assumption) ?_
                  rotate_left
                  focus (intro w hSw; (try dsimp only at hSw); go_simp; try (with_reducible rfl))
                  try simp only [Act.put, List.setIfInBounds_toArray, List.set_cons_zero, List.set_cons_succ]
                  refine wpAnyH_take (i := 12) (oi := { dst := some 59, op := Op.move (Operand.tmp 58), type := 4, pos := "law.go:70", after := #[{ on := 11, ground := Ground.data }, { on := 4, ground := Ground.chain }], guard := none }) (v := ?_) rfl (by kernel_rfl) (by kernel_rfl) (by kernel_rfl) (fun _ _ _ h => h) (Or.inl ⟨by rfl, ?_⟩) (by assumption) ?_
                  rotate_left
                  focus (intro w hSw; (try dsimp only at hSw); go_simp; try (with_reducible rfl))
                  try simp only [Act.put, List.setIfInBounds_toArray, List.set_cons_zero, List.set_cons_succ]
                  refine wpAnyH_take (i := 13) (oi := { dst := some 60, op := Op.move (Operand.tmp 7), type := 26, pos := "law.go:70", after := #[{ on := 12, ground := Ground.guard }], guard := some (12, false) }) (v := ?_) rfl (by kernel_rfl) (by kernel_rfl) (by kernel_rfl) (fun _ _ _ h => h) (Or.inl ⟨by rfl, ?_⟩) (by assumption) ?_
                  rotate_left
                  focus (intro w hSw; (try dsimp only at hSw); go_simp; try (with_reducible rfl))
                  try simp only [Act.put, List.setIfInBounds_toArray, List.set_cons_zero, List.set_cons_succ]
                  refine wpAnyH_take (i := 14) (oi := { dst := some 61, op := Op.move (Operand.tmp 12), type := 3, pos := "law.go:70", after := #[{ on := 12, ground := Ground.guard }], guard := some (12, false) }) (v := ?_) rfl (by kernel_rfl) (by kernel_rfl) (by kernel_rfl) (fun _ _ _ h => h) (Or.inl ⟨by rfl, ?_⟩) (by assumption) ?_
                  rotate_left
                  focus (intro w hSw; (try dsimp only at hSw); go_simp; try (with_reducible rfl))
                  try simp only [Act.put, List.setIfInBounds_toArray, List.set_cons_zero, List.set_cons_succ]
                  refine wpAnyH_take (i := 15) (oi := { dst := some 62, op := Op.indexAddr 26 (Operand.tmp 60) (Operand.tmp 61), type := 0, pos := "law.go:70", after := #[{ on := 13, ground := Ground.data }, { on := 14, ground := Ground.data }, { on := 12, ground := Ground.guard }], guard := some (12, false) }) (v := ?_) rfl (by kernel_rfl) (by kernel_rfl) (by kernel_rfl) (fun _ _ _ h => h) (Or.inl ⟨by rfl, ?_⟩) (by assumption) ?_
                  rotate_left
                  focus (intro w hSw; (try dsimp only at hSw); go_simp; try (with_reducible rfl))
                  try simp only [Act.put, List.setIfInBounds_toArray, List.set_cons_zero, List.set_cons_succ]
                  refine wpAnyH_take (i := 16) (oi := { dst := some 63, op := Op.load 24 (Operand.tmp 62), type := 24, pos := "law.go:70", after := #[{ on := 15, ground := Ground.data }, { on := 12, ground := Ground.guard }], guard := some (12, false) }) (v := ?_) rfl (by kernel_rfl) (by kernel_rfl) (by kernel_rfl) (fun _ _ _ h => h) (Or.inl ⟨by rfl, ?_⟩) (by assumption) ?_
                  rotate_left
                  focus (intro w hSw; (try dsimp only at hSw); go_simp; try (with_reducible rfl))
                  try simp only [Act.put, List.setIfInBounds_toArray, List.set_cons_zero, List.set_cons_succ]
                  refine wpAnyH_take (i := 18) (oi := { dst := some 65, op := Op.move (Operand.tmp 8), type := 31, pos := "law.go:70", after := #[{ on := 12, ground := Ground.guard }], guard := some (12, false) }) (v := ?_) rfl (by kernel_rfl) (by kernel_rfl) (by kernel_rfl) (fun _ _ _ h => h) (Or.inl ⟨by rfl, ?_⟩) (by assumption) ?_
                  rotate_left
                  focus (intro w hSw; (try dsimp only at hSw); go_simp; try (with_reducible rfl))
                  try simp only [Act.put, List.setIfInBounds_toArray, List.set_cons_zero, List.set_cons_succ]
                  refine wpAnyH_take (i := 19) (oi := { dst := some 66, op := Op.move (Operand.tmp 12), type := 3, pos := "law.go:70", after := #[{ on := 12, ground := Ground.guard }], guard := some (12, false) }) (v := ?_) rfl (by kernel_rfl) (by kernel_rfl) (by kernel_rfl) (fun _ _ _ h => h) (Or.inl ⟨by rfl, ?_⟩) (by assumption) ?_
                  rotate_left
                  focus (intro w hSw; (try dsimp only at hSw); go_simp; try (with_reducible rfl))
                  try simp only [Act.put, List.setIfInBounds_toArray, List.set_cons_zero, List.set_cons_succ]
                  refine wpAnyH_take (i := 20) (oi := { dst := some 67, op := Op.indexAddr 31 (Operand.tmp 65) (Operand.tmp 66), type := 0, pos := "law.go:70", after := #[{ on := 18, ground := Ground.data }, { on := 19, ground := Ground.data }, { on := 12, ground := Ground.guard }], guard := some (12, false) }) (v := ?_) rfl (by kernel_rfl) (by kernel_rfl) (by kernel_rfl) (fun _ _ _ h => h) (Or.inl ⟨by rfl, ?_⟩) (by assumption) ?_
                  rotate_left
                  focus (intro w hSw; (try dsimp only at hSw); go_simp; try (with_reducible rfl))
                  try simp only [Act.put, List.setIfInBounds_toArray, List.set_cons_zero, List.set_cons_succ]
                  refine wpAnyH_take (i := 21) (oi := { dst := some 68, op := Op.load 29 (Operand.tmp 67), type := 29, pos := "law.go:70", after := #[{ on := 20, ground := Ground.data }, { on := 12, ground := Ground.guard }], guard := some (12, false) }) (v := ?_) rfl (by kernel_rfl) (by kernel_rfl) (by kernel_rfl) (fun _ _ _ h => h) (Or.inl ⟨by rfl, ?_⟩) (by assumption) ?_
                  rotate_left
                  focus (intro w hSw; (try dsimp only at hSw); go_simp; try (with_reducible rfl))
                  try simp only [Act.put, List.setIfInBounds_toArray, List.set_cons_zero, List.set_cons_succ]
                  refine wpAnyH_ready (rs := [17]) (by kernel_rfl) (by simp) (AllReadyH.cons (o := { dst := some 64, op := Op.call { callee := Callee.value (Operand.func 16), args := #[Operand.tmp 63], argTypes := #[24] }, type := 3, pos := "law.go:70", after := #[{ on := 16, ground := Ground.data }, { on := 12, ground := Ground.chain }, { on := 12, ground := Ground.guard }], guard := some (12, false) }) rfl (fun K hK => ?_) AllReadyH.nil)
                  go_simp
                  (go_at_call 16; refine (room_any s r1 A1 false _ (MQ.q1 (MQ.of_s (by assumption)))).mono ?_; rintro e w8 ⟨rfl, nn, rfl⟩; rw [← HRM.out]; skip)
                  go_wp2_with fail
                  refine hK.out _ _ (MQ.kf (MQ.drewN (MQ.of_s (by assumption)) _)) (fun hHeld => ?_)
                  clear hK K
                  try simp only [Act.put, List.setIfInBounds_toArray, List.set_cons_zero, List.set_cons_succ]
                  refine wpAnyH_ready (rs := [22]) (by kernel_rfl) (by simp) (AllReadyH.cons (o := { dst := some 69, op := Op.call { callee := Callee.value (Operand.func 17), args := #[Operand.tmp 68], argTypes := #[29] }, type := 3, pos := "law.go:70", after := #[{ on := 21, ground := Ground.data }, { on := 17, ground := Ground.chain }, { on := 12, ground := Ground.guard }], guard := some (12, false) }) rfl (fun K hK => ?_) AllReadyH.nil)
                  go_simp
                  (go_at_call 17; refine (rroom_at (Aft t) r1 (.slice va n1 vc) false A1 _ (MQ.v1 (MQ.of_s (by assumption))) (by omega)).mono ?_; rintro e w9 ⟨rfl, U9⟩; rw [← HRM.out])
                  go_wp2_with fail
                  refine hK.out _ _ (MQ.kf (MQ.below (MQ.of_s (by assumption)) (by assumption))) (fun hHeld => ?_)
                  clear hK K
                  try simp only [Act.put, List.setIfInBounds_toArray, List.set_cons_zero, List.set_cons_succ]
                  refine wpAnyH_take (i := 23) (oi := { dst := some 70, op := Op.binOp BinOp.neq 3 (Operand.tmp 64) (Operand.tmp 69) 3, type := 4, pos := "law.go:70", after := #[{ on := 17, ground := Ground.data }, { on := 22, ground := Ground.data }, { on := 12, ground := Ground.guard }], guard := some (12, false) }) (v := ?_) rfl (by kernel_rfl) (by kernel_rfl) (by kernel_rfl) (fun _ _ _ h => h) (Or.inl ⟨by rfl, ?_⟩) (by assumption) ?_
                  rotate_left
                  focus (intro w hSw; (try dsimp only at hSw); go_simp; try (with_reducible rfl))
                  try simp only [Act.put, List.setIfInBounds_toArray, List.set_cons_zero, List.set_cons_succ]
                  refine wpAnyH_take (i := 24) (oi := { dst := some 71, op := Op.pick (Operand.tmp 59) (Operand.const (Value.bool true)) (Operand.tmp 70), type := 4, pos := "law.go:70", after := #[{ on := 12, ground := Ground.data }, { on := 23, ground := Ground.data }], guard := none }) (v := ?_) rfl (by kernel_rfl) (by kernel_rfl) (by kernel_rfl) (fun _ _ _ h => h) (Or.inl ⟨by rfl, ?_⟩) (by assumption) ?_
                  rotate_left
                  focus (intro w hSw; (try dsimp only at hSw); go_simp; try (with_reducible rfl))
                  try simp only [Act.put, List.setIfInBounds_toArray, List.set_cons_zero, List.set_cons_succ]
                  refine wpAnyH_take (i := 25) (oi := { dst := some 72, op := Op.move (Operand.tmp 71), type := 4, pos := "law.go:70", after := #[{ on := 24, ground := Ground.data }, { on := 22, ground := Ground.chain }], guard := none }) (v := ?_) rfl (by kernel_rfl) (by kernel_rfl) (by kernel_rfl) (fun _ _ _ h => h) (Or.inl ⟨by rfl, ?_⟩) (by assumption) ?_
                  rotate_left
                  focus (intro w hSw; (try dsimp only at hSw); go_simp; try (with_reducible rfl))
                  try simp only [Act.put, List.setIfInBounds_toArray, List.set_cons_zero, List.set_cons_succ]
                  refine wpAnyH_take (i := 26) (oi := { dst := some 73, op := Op.move (Operand.tmp 7), type := 26, pos := "law.go:70", after := #[{ on := 25, ground := Ground.guard }], guard := some (25, false) }) (v := ?_) rfl (by kernel_rfl) (by kernel_rfl) (by kernel_rfl) (fun _ _ _ h => h) (Or.inl ⟨by rfl, ?_⟩) (by assumption) ?_
                  rotate_left
                  focus (intro w hSw; (try dsimp only at hSw); go_simp; try (with_reducible rfl))
                  try simp only [Act.put, List.setIfInBounds_toArray, List.set_cons_zero, List.set_cons_succ]
                  refine wpAnyH_take (i := 27) (oi := { dst := some 74, op := Op.move (Operand.tmp 12), type := 3, pos := "law.go:70", after := #[{ on := 25, ground := Ground.guard }], guard := some (25, false) }) (v := ?_) rfl (by kernel_rfl) (by kernel_rfl) (by kernel_rfl) (fun _ _ _ h => h) (Or.inl ⟨by rfl, ?_⟩) (by assumption) ?_
                  rotate_left
                  focus (intro w hSw; (try dsimp only at hSw); go_simp; try (with_reducible rfl))
                  try simp only [Act.put, List.setIfInBounds_toArray, List.set_cons_zero, List.set_cons_succ]
                  refine wpAnyH_take (i := 28) (oi := { dst := some 75, op := Op.indexAddr 26 (Operand.tmp 73) (Operand.tmp 74), type := 0, pos := "law.go:70", after := #[{ on := 26, ground := Ground.data }, { on := 27, ground := Ground.data }, { on := 25, ground := Ground.guard }], guard := some (25, false) }) (v := ?_) rfl (by kernel_rfl) (by kernel_rfl) (by kernel_rfl) (fun _ _ _ h => h) (Or.inl ⟨by rfl, ?_⟩) (by assumption) ?_
                  rotate_left
                  focus (intro w hSw; (try dsimp only at hSw); go_simp; try (with_reducible rfl))
                  try simp only [Act.put, List.setIfInBounds_toArray, List.set_cons_zero, List.set_cons_succ]
                  refine wpAnyH_take (i := 29) (oi := { dst := some 76, op := Op.load 24 (Operand.tmp 75), type := 24, pos := "law.go:70", after := #[{ on := 28, ground := Ground.data }, { on := 25, ground := Ground.guard }], guard := some (25, false) }) (v := ?_) rfl (by kernel_rfl) (by kernel_rfl) (by kernel_rfl) (fun _ _ _ h => h) (Or.inl ⟨by rfl, ?_⟩) (by assumption) ?_
                  rotate_left
                  focus (intro w hSw; (try dsimp only at hSw); go_simp; try (with_reducible rfl))
                  try simp only [Act.put, List.setIfInBounds_toArray, List.set_cons_zero, List.set_cons_succ]
                  refine wpAnyH_take (i := 31) (oi := { dst := some 78, op := Op.move (Operand.tmp 8), type := 31, pos := "law.go:70", after := #[{ on := 25, ground := Ground.guard }], guard := some (25, false) }) (v := ?_) rfl (by kernel_rfl) (by kernel_rfl) (by kernel_rfl) (fun _ _ _ h => h) (Or.inl ⟨by rfl, ?_⟩) (by assumption) ?_
                  rotate_left
                  focus (intro w hSw; (try dsimp only at hSw); go_simp; try (with_reducible rfl))
                  try simp only [Act.put, List.setIfInBounds_toArray, List.set_cons_zero, List.set_cons_succ]
                  refine wpAnyH_take (i := 32) (oi := { dst := some 79, op := Op.move (Operand.tmp 12), type := 3, pos := "law.go:70", after := #[{ on := 25, ground := Ground.guard }], guard := some (25, false) }) (v := ?_) rfl (by kernel_rfl) (by kernel_rfl) (by kernel_rfl) (fun _ _ _ h => h) (Or.inl ⟨by rfl, ?_⟩) (by assumption) ?_
                  rotate_left
                  focus (intro w hSw; (try dsimp only at hSw); go_simp; try (with_reducible rfl))
                  try simp only [Act.put, List.setIfInBounds_toArray, List.set_cons_zero, List.set_cons_succ]
                  refine wpAnyH_take (i := 33) (oi := { dst := some 80, op := Op.indexAddr 31 (Operand.tmp 78) (Operand.tmp 79), type := 0, pos := "law.go:70", after := #[{ on := 31, ground := Ground.data }, { on := 32, ground := Ground.data }, { on := 25, ground := Ground.guard }], guard := some (25, false) }) (v := ?_) rfl (by kernel_rfl) (by kernel_rfl) (by kernel_rfl) (fun _ _ _ h => h) (Or.inl ⟨by rfl, ?_⟩) (by assumption) ?_
                  rotate_left
                  focus (intro w hSw; (try dsimp only at hSw); go_simp; try (with_reducible rfl))
                  try simp only [Act.put, List.setIfInBounds_toArray, List.set_cons_zero, List.set_cons_succ]
                  refine wpAnyH_take (i := 34) (oi := { dst := some 81, op := Op.fieldAddr 29 (Operand.tmp 80) 2, type := 0, pos := "law.go:70", after := #[{ on := 33, ground := Ground.data }, { on := 25, ground := Ground.guard }], guard := some (25, false) }) (v := ?_) rfl (by kernel_rfl) (by kernel_rfl) (by kernel_rfl) (fun _ _ _ h => h) (Or.inl ⟨by rfl, ?_⟩) (by assumption) ?_
                  rotate_left
                  focus (intro w hSw; (try dsimp only at hSw); go_simp; try (with_reducible rfl))
                  try simp only [Act.put, List.setIfInBounds_toArray, List.set_cons_zero, List.set_cons_succ]
                  refine wpAnyH_take (i := 35) (oi := { dst := some 82, op := Op.load 4 (Operand.tmp 81), type := 4, pos := "law.go:70", after := #[{ on := 34, ground := Ground.data }, { on := 25, ground := Ground.guard }], guard := some (25, false) }) (v := ?_) rfl (by kernel_rfl) (by kernel_rfl) (by kernel_rfl) (fun _ _ _ h => h) (Or.inl ⟨by rfl, ?_⟩) (by assumption) ?_
                  rotate_left
                  focus (intro w hSw; (try dsimp only at hSw); go_simp; try (with_reducible rfl))
                  try simp only [Act.put, List.setIfInBounds_toArray, List.set_cons_zero, List.set_cons_succ]
                  refine wpAnyH_ready (rs := [30]) (by kernel_rfl) (by simp) (AllReadyH.cons (o := { dst := some 77, op := Op.call { callee := Callee.value (Operand.func 18), args := #[Operand.tmp 76], argTypes := #[24] }, type := 4, pos := "law.go:70", after := #[{ on := 29, ground := Ground.data }, { on := 25, ground := Ground.chain }, { on := 25, ground := Ground.guard }], guard := some (25, false) }) rfl (fun K hK => ?_) AllReadyH.nil)
                  go_simp
                  (go_at_call 18; refine (over_any s r1 A1 false _ (MQ.q1 (MQ.of_s (by assumption)))).mono ?_; rintro e w10 ⟨rfl, rfl⟩; rw [HOV.out])
                  go_wp2_with fail
                  refine hK.out _ _ (by assumption) (fun hHeld => ?_)
                  clear hK K
                  try simp only [Act.put, List.setIfInBounds_toArray, List.set_cons_zero, List.set_cons_succ]
                  refine wpAnyH_take (i := 36) (oi := { dst := some 83, op := Op.move (Operand.tmp 82), type := 4, pos := "law.go:70", after := #[{ on := 35, ground := Ground.data }, { on := 30, ground := Ground.chain }, { on := 25, ground := Ground.guard }], guard := some (25, false) }) (v := ?_) rfl (by kernel_rfl) (by kernel_rfl) (by kernel_rfl) (fun _ _ _ h => h) (Or.inl ⟨by rfl, ?_⟩) (by assumption) ?_
                  rotate_left
                  focus (intro w hSw; (try dsimp only at hSw); go_simp; try (with_reducible rfl))
                  try simp only [Act.put, List.setIfInBounds_toArray, List.set_cons_zero, List.set_cons_succ]
                  refine wpAnyH_take (i := 37) (oi := { dst := some 84, op := Op.move (Operand.tmp 8), type := 31, pos := "law.go:70", after := #[{ on := 36, ground := Ground.guard }], guard := some (36, true) }) (v := undef) rfl (by kernel_rfl) (by kernel_rfl) (by kernel_rfl) (fun _ _ _ h => h) (Or.inr ⟨by rfl, rfl⟩) (by assumption) ?_
                  try simp only [Act.put, List.setIfInBounds_toArray, List.set_cons_zero, List.set_cons_succ]
                  refine wpAnyH_take (i := 38) (oi := { dst := some 85, op := Op.move (Operand.tmp 12), type := 3, pos := "law.go:70", after := #[{ on := 36, ground := Ground.guard }], guard := some (36, true) }) (v := undef) rfl (by kernel_rfl) (by kernel_rfl) (by kernel_rfl) (fun _ _ _ h => h) (Or.inr ⟨by rfl, rfl⟩) (by assumption) ?_
                  try simp only [Act.put, List.setIfInBounds_toArray, List.set_cons_zero, List.set_cons_succ]
                  refine wpAnyH_take (i := 39) (oi := { dst := some 86, op := Op.indexAddr 31 (Operand.tmp 84) (Operand.tmp 85), type := 0, pos := "law.go:70", after := #[{ on := 37, ground := Ground.data }, { on := 38, ground := Ground.data }, { on := 36, ground := Ground.guard }], guard := some (36, true) }) (v := undef) rfl (by kernel_rfl) (by kernel_rfl) (by kernel_rfl) (fun _ _ _ h => h) (Or.inr ⟨by rfl, rfl⟩) (by assumption) ?_
                  try simp only [Act.put, List.setIfInBounds_toArray, List.set_cons_zero, List.set_cons_succ]
                  refine wpAnyH_take (i := 40) (oi := { dst := some 87, op := Op.fieldAddr 29 (Operand.tmp 86) 0, type := 0, pos := "law.go:70", after := #[{ on := 39, ground := Ground.data }, { on := 36, ground := Ground.guard }], guard := some (36, true) }) (v := undef) rfl (by kernel_rfl) (by kernel_rfl) (by kernel_rfl) (fun _ _ _ h => h) (Or.inr ⟨by rfl, rfl⟩) (by assumption) ?_
                  try simp only [Act.put, List.setIfInBounds_toArray, List.set_cons_zero, List.set_cons_succ]
                  refine wpAnyH_take (i := 41) (oi := { dst := some 88, op := Op.load 27 (Operand.tmp 87), type := 27, pos := "law.go:70", after := #[{ on := 40, ground := Ground.data }, { on := 36, ground := Ground.guard }], guard := some (36, true) }) (v := undef) rfl (by kernel_rfl) (by kernel_rfl) (by kernel_rfl) (fun _ _ _ h => h) (Or.inr ⟨by rfl, rfl⟩) (by assumption) ?_
                  try simp only [Act.put, List.setIfInBounds_toArray, List.set_cons_zero, List.set_cons_succ]
                  refine wpAnyH_take (i := 42) (oi := { dst := some 89, op := Op.call { callee := Callee.builtin Builtin.len, args := #[Operand.tmp 88], argTypes := #[27] }, type := 3, pos := "law.go:70", after := #[{ on := 41, ground := Ground.data }, { on := 36, ground := Ground.guard }], guard := some (36, true) }) (v := undef) rfl (by kernel_rfl) (by kernel_rfl) (by kernel_rfl) (fun _ _ _ h => h) (Or.inr ⟨by rfl, rfl⟩) (by assumption) ?_
                  try simp only [Act.put, List.setIfInBounds_toArray, List.set_cons_zero, List.set_cons_succ]
                  refine wpAnyH_take (i := 43) (oi := { dst := some 90, op := Op.binOp BinOp.eql 3 (Operand.tmp 89) (Operand.const (Value.int IntKind.i64 0)) 3, type := 4, pos := "law.go:70", after := #[{ on := 42, ground := Ground.data }, { on := 36, ground := Ground.guard }], guard := some (36, true) }) (v := undef) rfl (by kernel_rfl) (by kernel_rfl) (by kernel_rfl) (fun _ _ _ h => h) (Or.inr ⟨by rfl, rfl⟩) (by assumption) ?_
                  try simp only [Act.put, List.setIfInBounds_toArray, List.set_cons_zero, List.set_cons_succ]
                  refine wpAnyH_take (i := 44) (oi := { dst := some 91, op := Op.pick (Operand.tmp 83) (Operand.tmp 90) (Operand.const (Value.bool false)), type := 4, pos := "law.go:70", after := #[{ on := 36, ground := Ground.data }, { on := 43, ground := Ground.data }, { on := 25, ground := Ground.guard }], guard := some (25, false) }) (v := ?_) rfl (by kernel_rfl) (by kernel_rfl) (by kernel_rfl) (fun _ _ _ h => h) (Or.inl ⟨by rfl, ?_⟩) (by assumption) ?_
                  rotate_left
                  focus (intro w hSw; (try dsimp only at hSw); go_simp; try (with_reducible rfl))
                  try simp only [Act.put, List.setIfInBounds_toArray, List.set_cons_zero, List.set_cons_succ]
                  refine wpAnyH_take (i := 45) (oi := { dst := some 92, op := Op.binOp BinOp.neq 4 (Operand.tmp 77) (Operand.tmp 91) 4, type := 4, pos := "law.go:70", after := #[{ on := 30, ground := Ground.data }, { on := 44, ground := Ground.data }, { on := 25, ground := Ground.guard }], guard := some (25, false) }) (v := ?_) rfl (by kernel_rfl) (by kernel_rfl) (by kernel_rfl) (fun _ _ _ h => h) (Or.inl ⟨by rfl, ?_⟩) (by assumption) ?_
                  rotate_left
                  focus (intro w hSw; (try dsimp only at hSw); go_simp; try (with_reducible rfl))
                  try simp only [Act.put, List.setIfInBounds_toArray, List.set_cons_zero, List.set_cons_succ]
                  refine wpAnyH_take (i := 46) (oi := { dst := some 93, op := Op.pick (Operand.tmp 72) (Operand.const (Value.bool true)) (Operand.tmp 92), type := 4, pos := "law.go:70", after := #[{ on := 25, ground := Ground.data }, { on := 45, ground := Ground.data }], guard := none }) (v := ?_) rfl (by kernel_rfl) (by kernel_rfl) (by kernel_rfl) (fun _ _ _ h => h) (Or.inl ⟨by rfl, ?_⟩) (by assumption) ?_
                  rotate_left
                  focus (intro w hSw; (try dsimp only at hSw); go_simp; try (with_reducible rfl))
                  try simp only [Act.put, List.setIfInBounds_toArray, List.set_cons_zero, List.set_cons_succ]
                  refine wpAnyH_done (by kernel_rfl) ?_ _
                  go_wp2_with fail
                  go_meet
                  exact ⟨rfl, _, _, _, _, _, _, MQ.of_s (by assumption)⟩
                · subst hc
                  have HOV := Lib.hid hov
                  clear hov
                  first
                  | (go_region_held3 (fun W => W.cell? ⟨s + 4, 0, none⟩ = some (.pointer (some ⟨s + 1, 0, none⟩)) ∧ W.cell? ⟨s + 4, 1, none⟩ = some (.pointer (some ⟨s + 2 + 1, 0, none⟩)) ∧ W.cell? ⟨t, 0, none⟩ = some (.slice va n1 vc) ∧ W.cell? ⟨t, 1, none⟩ = some (.int .i64 r1) ∧ W.cell? ⟨t, 2, none⟩ = some (.bool true) ∧ W.cell? ⟨t, 3, none⟩ = some (.slice wa n2 wc) ∧ W.cell? ⟨t, 4, none⟩ = some (.int .i64 r2) ∧ W.cell? ⟨t, 5, none⟩ = some (.bool c2) ∧ MQ s (s + 4) t w1 r1 r2 A1 true A2 c2 A1 true (.slice va n1 vc) A2 c2 (.slice wa n2 wc) W)
                    (with_reducible (first | assumption | exact MQ.kf (MQ.drew HM.out) | exact MQ.kf (MQ.drewN (MQ.of_s (by assumption)) _) | exact MQ.kf (MQ.below (MQ.of_s (by assumption)) (by assumption))))
                    (first
                    | (go_at_call 15; refine (len_any s r1 A1 true _ (MQ.q1 (MQ.of_s (by assumption)))).mono ?_; rintro e w8 ⟨rfl, rfl⟩; rw [HN1.out])
                    | (go_at_call 16; refine (room_any s r1 A1 true _ (MQ.q1 (MQ.of_s (by assumption)))).mono ?_; rintro e w8 ⟨rfl, nn, rfl⟩; rw [← HRM.out]; skip)
                    | (go_at_call 17; refine (rroom_at (Aft t) r1 (.slice va n1 vc) true A1 _ (MQ.v1 (MQ.of_s (by assumption))) (by omega)).mono ?_; rintro e w9 ⟨rfl, U9⟩; rw [← HRM.out])
                    | (go_at_call 18; refine (over_any s r1 A1 true _ (MQ.q1 (MQ.of_s (by assumption)))).mono ?_; rintro e w10 ⟨rfl, rfl⟩; rw [HOV.out])))
                  | fail
                  all_goals
                    go_wp2_with fail
                    go_meet
                    exact ⟨rfl, _, _, _, _, _, _, MQ.of_s (by assumption)⟩
                · subst hc
                  have HOV := Lib.hid hov
                  clear hov
                  first
                  | (go_region_held3 (fun W => W.cell? ⟨s + 4, 0, none⟩ = some (.pointer (some ⟨s + 1, 0, none⟩)) ∧ W.cell? ⟨s + 4, 1, none⟩ = some (.pointer (some ⟨s + 2 + 1, 0, none⟩)) ∧ W.cell? ⟨t, 0, none⟩ = some (.slice va n1 vc) ∧ W.cell? ⟨t, 1, none⟩ = some (.int .i64 r1) ∧ W.cell? ⟨t, 2, none⟩ = some (.bool true) ∧ W.cell? ⟨t, 3, none⟩ = some (.slice wa n2 wc) ∧ W.cell? ⟨t, 4, none⟩ = some (.int .i64 r2) ∧ W.cell? ⟨t, 5, none⟩ = some (.bool c2) ∧ MQ s (s + 4) t w1 r1 r2 A1 true A2 c2 A1 true (.slice va n1 vc) A2 c2 (.slice wa n2 wc) W)
                    (with_reducible (first | assumption | exact MQ.kf (MQ.drew HM.out) | exact MQ.kf (MQ.drewN (MQ.of_s (by assumption)) _) | exact MQ.kf (MQ.below (MQ.of_s (by assumption)) (by assumption))))
                    (first
                    | (go_at_call 15; refine (len_any s r1 A1 true _ (MQ.q1 (MQ.of_s (by assumption)))).mono ?_; rintro e w8 ⟨rfl, rfl⟩; rw [HN1.out])
                    | (go_at_call 16; refine (room_any s r1 A1 true _ (MQ.q1 (MQ.of_s (by assumption)))).mono ?_; rintro e w8 ⟨rfl, nn, rfl⟩; rw [← HRM.out]; skip)
                    | (go_at_call 17; refine (rroom_at (Aft t) r1 (.slice va n1 vc) true A1 _ (MQ.v1 (MQ.of_s (by assumption))) (by omega)).mono ?_; rintro e w9 ⟨rfl, U9⟩; rw [← HRM.out])
                    | (go_at_call 18; refine (over_any s r1 A1 true _ (MQ.q1 (MQ.of_s (by assumption)))).mono ?_; rintro e w10 ⟨rfl, rfl⟩; rw [HOV.out])))
                  | fail
                  all_goals
                    go_wp2_with fail
                    go_meet
                    exact ⟨rfl, _, _, _, _, _, _, MQ.of_s (by assumption)⟩
              case rest =>
                obtain ⟨rfl, hE⟩ := hcut
                have HE8 := Lib.hid hE
                clear hE kf hcase
                go_wp2_with fail
                go_roundw
                case rel => exact ⟨1, .inr (.inl rfl), rfl, HE8.out⟩
                case measure => simp [intOf]
            · obtain ⟨A1, c1, A2, c2, u1, u2, M⟩ := E7
              obtain ⟨va, vc, hv1, hx1⟩ := id M.v1
              obtain ⟨wa, wc, hv2, hx2⟩ := id M.v2
              clear hx1 hx2
              obtain ⟨n1, hn1⟩ : ∃ n1, n1 = A1.length := ⟨_, rfl⟩
              obtain ⟨n2, hn2⟩ : ∃ n2, n2 = A2.length := ⟨_, rfl⟩
              rw [← hn1] at hv1
              rw [← hn2] at hv2
              subst hv1 hv2
              have HM := Lib.hid M
              have HN2 := Lib.hid hn2.symm
              have kf := M.kf
              have hr1024 := M.q2.most
              clear M hn1 hn2
              have hcase : (c2 = false ∧ (c2 && A2.isEmpty) = false) ∨ (c2 = true ∧ ((n2 : Int) == 0) = true ∧ (c2 && A2.isEmpty) = true) ∨ (c2 = true ∧ ((n2 : Int) == 0) = false ∧ (c2 && A2.isEmpty) = false) := by
                cases c2 with
                | false => exact .inl ⟨rfl, rfl⟩
                | true =>
                  have hl := HN2.out
                  cases A2 with
                  | nil => exact .inr (.inl ⟨rfl, by rw [← hl]; rfl, rfl⟩)
                  | cons a l => exact .inr (.inr ⟨rfl, by rw [← hl]; simp; omega, rfl⟩)
              obtain ⟨rm, hrm⟩ : ∃ rm, rm = roomL r2 A2 c2 := ⟨_, rfl⟩
              have HRM := Lib.hid hrm
              clear hrm
              go_upto_region 18 with fail
              go_cut [93] from 47 to 93 (fun v wx => v = .bool false ∧ Even s (s + 4) t w1 r1 r2 wx)
              case first =>
                rcases hcase with ⟨hc, hov⟩ | ⟨hc, hn0, hov⟩ | ⟨hc, hn0, hov⟩
                · subst hc
                  have HOV := Lib.hid hov
                  clear hov
                  refine wp_region_held_drew (S := (fun W => W.cell? ⟨s + 4, 0, none⟩ = some (.pointer (some ⟨s + 1, 0, none⟩)) ∧ W.cell? ⟨s + 4, 1, none⟩ = some (.pointer (some ⟨s + 2 + 1, 0, none⟩)) ∧ W.cell? ⟨t, 0, none⟩ = some (.slice va n1 vc) ∧ W.cell? ⟨t, 1, none⟩ = some (.int .i64 r1) ∧ W.cell? ⟨t, 2, none⟩ = some (.bool c1) ∧ W.cell? ⟨t, 3, none⟩ = some (.slice wa n2 wc) ∧ W.cell? ⟨t, 4, none⟩ = some (.int .i64 r2) ∧ W.cell? ⟨t, 5, none⟩ = some (.bool false) ∧ MQ s (s + 4) t w1 r1 r2 A1 c1 A2 false A1 c1 (.slice va n1 vc) A2 false (.slice wa n2 wc) W)) (by kernel_rfl) (MQ.kf (MQ.drew HM.out)) (fun hHeld => ?_)
                  refine wpAnyH_take (i := 0) (oi := { dst := some 47, op := Op.move (Operand.tmp 7), type := 26, pos := "law.go:70", after := #[], guard := none }) (v := ?_) rfl (by kernel_rfl) (by kernel_rfl) (by kernel_rfl) (fun _ _ _ h => h) (Or.inl ⟨by rfl, ?_⟩) (by assumption) ?_
                  rotate_left
                  focus (intro w hSw; (try dsimp only at hSw); go_simp; try (with_reducible rfl))
                  try simp only [Act.put, List.setIfInBounds_toArray, List.set_cons_zero, List.set_cons_succ]
                  refine wpAnyH_take (i := 1) (oi := { dst := some 48, op := Op.move (Operand.tmp 12), type := 3, pos := "law.go:70", after := #[], guard := none }) (v := ?_) rfl (by kernel_rfl) (by kernel_rfl) (by kernel_rfl) (fun _ _ _ h => h) (Or.inl ⟨by rfl, ?_⟩) (by assumption) ?_
                  rotate_left
                  focus (intro w hSw; (try dsimp only at hSw); go_simp; try (with_reducible rfl))
                  try simp only [Act.put, List.setIfInBounds_toArray, List.set_cons_zero, List.set_cons_succ]
                  refine wpAnyH_take (i := 2) (oi := { dst := some 49, op := Op.indexAddr 26 (Operand.tmp 47) (Operand.tmp 48), type := 0, pos := "law.go:70", after := #[{ on := 0, ground := Ground.data }, { on := 1, ground := Ground.data }], guard := none }) (v := ?_) rfl (by kernel_rfl) (by kernel_rfl) (by kernel_rfl) (fun _ _ _ h => h) (Or.inl ⟨by rfl, ?_⟩) (by assumption) ?_
                  rotate_left
                  focus (intro w hSw; (try dsimp only at hSw); go_simp; try (with_reducible rfl))
                  try simp only [Act.put, List.setIfInBounds_toArray, List.set_cons_zero, List.set_cons_succ]
                  refine wpAnyH_take (i := 3) (oi := { dst := some 50, op := Op.load 24 (Operand.tmp 49), type := 24, pos := "law.go:70", after := #[{ on := 2, ground := Ground.data }], guard := none }) (v := ?_) rfl (by kernel_rfl) (by kernel_rfl) (by kernel_rfl) (fun _ _ _ h => h) (Or.inl ⟨by rfl, ?_⟩) (by assumption) ?_
                  rotate_left
                  focus (intro w hSw; (try dsimp only at hSw); go_simp; try (with_reducible rfl))
                  try simp only [Act.put, List.setIfInBounds_toArray, List.set_cons_zero, List.set_cons_succ]
                  refine wpAnyH_take (i := 5) (oi := { dst := some 52, op := Op.move (Operand.tmp 8), type := 31, pos := "law.go:70", after := #[], guard := none }) (v := ?_) rfl (by kernel_rfl) (by kernel_rfl) (by kernel_rfl) (fun _ _ _ h => h) (Or.inl ⟨by rfl, ?_⟩) (by assumption) ?_
                  rotate_left
                  focus (intro w hSw; (try dsimp only at hSw); go_simp; try (with_reducible rfl))
                  try simp only [Act.put, List.setIfInBounds_toArray, List.set_cons_zero, List.set_cons_succ]
                  refine wpAnyH_take (i := 6) (oi := { dst := some 53, op := Op.move (Operand.tmp 12), type := 3, pos := "law.go:70", after := #[], guard := none }) (v := ?_) rfl (by kernel_rfl) (by kernel_rfl) (by kernel_rfl) (fun _ _ _ h => h) (Or.inl ⟨by rfl, ?_⟩) (by assumption) ?_
                  rotate_left
                  focus (intro w hSw; (try dsimp only at hSw); go_simp; try (with_reducible rfl))
                  try simp only [Act.put, List.setIfInBounds_toArray, List.set_cons_zero, List.set_cons_succ]
                  refine wpAnyH_take (i := 7) (oi := { dst := some 54, op := Op.indexAddr 31 (Operand.tmp 52) (Operand.tmp 53), type := 0, pos := "law.go:70", after := #[{ on := 5, ground := Ground.data }, { on := 6, ground := Ground.data }], guard := none }) (v := ?_) rfl (by kernel_rfl) (by kernel_rfl) (by kernel_rfl) (fun _ _ _ h => h) (Or.inl ⟨by rfl, ?_⟩) (by assumption) ?_
                  rotate_left
                  focus (intro w hSw; (try dsimp only at hSw); go_simp; try (with_reducible rfl))
                  try simp only [Act.put, List.setIfInBounds_toArray, List.set_cons_zero, List.set_cons_succ]
                  refine wpAnyH_take (i := 8) (oi := { dst := some 55, op := Op.fieldAddr 29 (Operand.tmp 54) 0, type := 0, pos := "law.go:70", after := #[{ on := 7, ground := Ground.data }], guard := none }) (v := ?_) rfl (by kernel_rfl) (by kernel_rfl) (by kernel_rfl) (fun _ _ _ h => h) (Or.inl ⟨by rfl, ?_⟩) (by assumption) ?_
                  rotate_left
                  focus (intro w hSw; (try dsimp only at hSw); go_simp; try (with_reducible rfl))
                  try simp only [Act.put, List.setIfInBounds_toArray, List.set_cons_zero, List.set_cons_succ]
                  refine wpAnyH_take (i := 9) (oi := { dst := some 56, op := Op.load 27 (Operand.tmp 55), type := 27, pos := "law.go:70", after := #[{ on := 8, ground := Ground.data }], guard := none }) (v := ?_) rfl (by kernel_rfl) (by kernel_rfl) (by kernel_rfl) (fun _ _ _ h => h) (Or.inl ⟨by rfl, ?_⟩) (by assumption) ?_
                  rotate_left
                  focus (intro w hSw; (try dsimp only at hSw); go_simp; try (with_reducible rfl))
                  try simp only [Act.put, List.setIfInBounds_toArray, List.set_cons_zero, List.set_cons_succ]
                  refine wpAnyH_take (i := 10) (oi := { dst := some 57, op := Op.call { callee := Callee.builtin Builtin.len, args := #[Operand.tmp 56], argTypes := #[27] }, type := 3, pos := "law.go:70", after := #[{ on := 9, ground := Ground.data }], guard := none }) (v := ?_) rfl (by kernel_rfl) (by kernel_rfl) (by kernel_rfl) (fun _ _ _ h => h) (Or.inl ⟨by rfl, ?_⟩) (by assumption) ?_
                  rotate_left
                  focus (intro w hSw; (try dsimp only at hSw); go_simp; try (with_reducible rfl))
                  try simp only [Act.put, List.setIfInBounds_toArray, List.set_cons_zero, List.set_cons_succ]
                  refine wpAnyH_ready (rs := [4]) (by kernel_rfl) (by simp) (AllReadyH.cons (o := { dst := some 51, op := Op.call { callee := Callee.value (Operand.func 15), args := #[Operand.tmp 50], argTypes := #[24] }, type := 3, pos := "law.go:70", after := #[{ on := 3, ground := Ground.data }], guard := none }) rfl (fun K hK => ?_) AllReadyH.nil)
                  go_simp
                  (go_at_call 15; refine (len_any (s + 2) r2 A2 false _ (MQ.q2 (MQ.of_s (by assumption)))).mono ?_; rintro e w8 ⟨rfl, rfl⟩; rw [HN2.out])
                  go_wp2_with fail
                  refine hK.out _ _ (by assumption) (fun hHeld => ?_)
                  clear hK K
                  try simp only [Act.put, List.setIfInBounds_toArray, List.set_cons_zero, List.set_cons_succ]
                  refine wpAnyH_take (i := 11) (oi := { dst := some 58, op := Op.binOp BinOp.neq 3 (Operand.tmp 51) (Operand.tmp 57) 3, type := 4, pos := "law.go:70", after := #[{ on := 4, ground := Ground.data }, { on := 10, ground := Ground.data }], guard := none }) (v := ?_) rfl (by kernel_rfl) (by kernel_rfl) (by kernel_rfl) (fun _ _ _ h => h) (Or.inl ⟨by rfl, ?_⟩) (by assumption) ?_
                  rotate_left
                  focus (intro w hSw; (try dsimp only at hSw); go_simp; try (with_reducible rfl))
                  try simp only [Act.put, List.setIfInBounds_toArray, List.set_cons_zero, List.set_cons_succ]
                  refine wpAnyH_take (i := 12) (oi := { dst := some 59, op := Op.move (Operand.tmp 58), type := 4, pos := "law.go:70", after := #[{ on := 11, ground := Ground.data }, { on := 4, ground := Ground.chain }], guard := none }) (v := ?_) rfl (by kernel_rfl) (by kernel_rfl) (by kernel_rfl) (fun _ _ _ h => h) (Or.inl ⟨by rfl, ?_⟩) (by assumption) ?_
                  rotate_left
                  focus (intro w hSw; (try dsimp only at hSw); go_simp; try (with_reducible rfl))
                  try simp only [Act.put, List.setIfInBounds_toArray, List.set_cons_zero, List.set_cons_succ]
                  refine wpAnyH_take (i := 13) (oi := { dst := some 60, op := Op.move (Operand.tmp 7), type := 26, pos := "law.go:70", after := #[{ on := 12, ground := Ground.guard }], guard := some (12, false) }) (v := ?_) rfl (by kernel_rfl) (by kernel_rfl) (by kernel_rfl) (fun _ _ _ h => h) (Or.inl ⟨by rfl, ?_⟩) (by assumption) ?_
                  rotate_left
                  focus (intro w hSw; (try dsimp only at hSw); go_simp; try (with_reducible rfl))
                  try simp only [Act.put, List.setIfInBounds_toArray, List.set_cons_zero, List.set_cons_succ]
                  refine wpAnyH_take (i := 14) (oi := { dst := some 61, op := Op.move (Operand.tmp 12), type := 3, pos := "law.go:70", after := #[{ on := 12, ground := Ground.guard }], guard := some (12, false) }) (v := ?_) rfl (by kernel_rfl) (by kernel_rfl) (by kernel_rfl) (fun _ _ _ h => h) (Or.inl ⟨by rfl, ?_⟩) (by assumption) ?_
                  rotate_left
                  focus (intro w hSw; (try dsimp only at hSw); go_simp; try (with_reducible rfl))
                  try simp only [Act.put, List.setIfInBounds_toArray, List.set_cons_zero, List.set_cons_succ]
                  refine wpAnyH_take (i := 15) (oi := { dst := some 62, op := Op.indexAddr 26 (Operand.tmp 60) (Operand.tmp 61), type := 0, pos := "law.go:70", after := #[{ on := 13, ground := Ground.data }, { on := 14, ground := Ground.data }, { on := 12, ground := Ground.guard }], guard := some (12, false) }) (v := ?_) rfl (by kernel_rfl) (by kernel_rfl) (by kernel_rfl) (fun _ _ _ h => h) (Or.inl ⟨by rfl, ?_⟩) (by assumption) ?_
                  rotate_left
                  focus (intro w hSw; (try dsimp only at hSw); go_simp; try (with_reducible rfl))
                  try simp only [Act.put, List.setIfInBounds_toArray, List.set_cons_zero, List.set_cons_succ]
                  refine wpAnyH_take (i := 16) (oi := { dst := some 63, op := Op.load 24 (Operand.tmp 62), type := 24, pos := "law.go:70", after := #[{ on := 15, ground := Ground.data }, { on := 12, ground := Ground.guard }], guard := some (12, false) }) (v := ?_) rfl (by kernel_rfl) (by kernel_rfl) (by kernel_rfl) (fun _ _ _ h => h) (Or.inl ⟨by rfl, ?_⟩) (by assumption) ?_
                  rotate_left
                  focus (intro w hSw; (try dsimp only at hSw); go_simp; try (with_reducible rfl))
                  try simp only [Act.put, List.setIfInBounds_toArray, List.set_cons_zero, List.set_cons_succ]
                  refine wpAnyH_take (i := 18) (oi := { dst := some 65, op := Op.move (Operand.tmp 8), type := 31, pos := "law.go:70", after := #[{ on := 12, ground := Ground.guard }], guard := some (12, false) }) (v := ?_) rfl (by kernel_rfl) (by kernel_rfl) (by kernel_rfl) (fun _ _ _ h => h) (Or.inl ⟨by rfl, ?_⟩) (by assumption) ?_
                  rotate_left
                  focus (intro w hSw; (try dsimp only at hSw); go_simp; try (with_reducible rfl))
                  try simp only [Act.put, List.setIfInBounds_toArray, List.set_cons_zero, List.set_cons_succ]
                  refine wpAnyH_take (i := 19) (oi := { dst := some 66, op := Op.move (Operand.tmp 12), type := 3, pos := "law.go:70", after := #[{ on := 12, ground := Ground.guard }], guard := some (12, false) }) (v := ?_) rfl (by kernel_rfl) (by kernel_rfl) (by kernel_rfl) (fun _ _ _ h => h) (Or.inl ⟨by rfl, ?_⟩) (by assumption) ?_
                  rotate_left
                  focus (intro w hSw; (try dsimp only at hSw); go_simp; try (with_reducible rfl))
                  try simp only [Act.put, List.setIfInBounds_toArray, List.set_cons_zero, List.set_cons_succ]
                  refine wpAnyH_take (i := 20) (oi := { dst := some 67, op := Op.indexAddr 31 (Operand.tmp 65) (Operand.tmp 66), type := 0, pos := "law.go:70", after := #[{ on := 18, ground := Ground.data }, { on := 19, ground := Ground.data }, { on := 12, ground := Ground.guard }], guard := some (12, false) }) (v := ?_) rfl (by kernel_rfl) (by kernel_rfl) (by kernel_rfl) (fun _ _ _ h => h) (Or.inl ⟨by rfl, ?_⟩) (by assumption) ?_
                  rotate_left
                  focus (intro w hSw; (try dsimp only at hSw); go_simp; try (with_reducible rfl))
                  try simp only [Act.put, List.setIfInBounds_toArray, List.set_cons_zero, List.set_cons_succ]
                  refine wpAnyH_take (i := 21) (oi := { dst := some 68, op := Op.load 29 (Operand.tmp 67), type := 29, pos := "law.go:70", after := #[{ on := 20, ground := Ground.data }, { on := 12, ground := Ground.guard }], guard := some (12, false) }) (v := ?_) rfl (by kernel_rfl) (by kernel_rfl) (by kernel_rfl) (fun _ _ _ h => h) (Or.inl ⟨by rfl, ?_⟩) (by assumption) ?_
                  rotate_left
                  focus (intro w hSw; (try dsimp only at hSw); go_simp; try (with_reducible rfl))
                  try simp only [Act.put, List.setIfInBounds_toArray, List.set_cons_zero, List.set_cons_succ]
                  refine wpAnyH_ready (rs := [17]) (by kernel_rfl) (by simp) (AllReadyH.cons (o := { dst := some 64, op := Op.call { callee := Callee.value (Operand.func 16), args := #[Operand.tmp 63], argTypes := #[24] }, type := 3, pos := "law.go:70", after := #[{ on := 16, ground := Ground.data }, { on := 12, ground := Ground.chain }, { on := 12, ground := Ground.guard }], guard := some (12, false) }) rfl (fun K hK => ?_) AllReadyH.nil)
                  go_simp
                  (go_at_call 16; refine (room_any (s + 2) r2 A2 false _ (MQ.q2 (MQ.of_s (by assumption)))).mono ?_; rintro e w8 ⟨rfl, nn, rfl⟩; rw [← HRM.out]; skip)
                  go_wp2_with fail
                  refine hK.out _ _ (MQ.kf (MQ.drewN (MQ.of_s (by assumption)) _)) (fun hHeld => ?_)
                  clear hK K
                  try simp only [Act.put, List.setIfInBounds_toArray, List.set_cons_zero, List.set_cons_succ]
                  refine wpAnyH_ready (rs := [22]) (by kernel_rfl) (by simp) (AllReadyH.cons (o := { dst := some 69, op := Op.call { callee := Callee.value (Operand.func 17), args := #[Operand.tmp 68], argTypes := #[29] }, type := 3, pos := "law.go:70", after := #[{ on := 21, ground := Ground.data }, { on := 17, ground := Ground.chain }, { on := 12, ground := Ground.guard }], guard := some (12, false) }) rfl (fun K hK => ?_) AllReadyH.nil)
                  go_simp
                  (go_at_call 17; refine (rroom_at (Aft t) r2 (.slice wa n2 wc) false A2 _ (MQ.v2 (MQ.of_s (by assumption))) (by omega)).mono ?_; rintro e w9 ⟨rfl, U9⟩; rw [← HRM.out])
                  go_wp2_with fail
                  refine hK.out _ _ (MQ.kf (MQ.below (MQ.of_s (by assumption)) (by assumption))) (fun hHeld => ?_)
                  clear hK K
                  try simp only [Act.put, List.setIfInBounds_toArray, List.set_cons_zero, List.set_cons_succ]
                  refine wpAnyH_take (i := 23) (oi := { dst := some 70, op := Op.binOp BinOp.neq 3 (Operand.tmp 64) (Operand.tmp 69) 3, type := 4, pos := "law.go:70", after := #[{ on := 17, ground := Ground.data }, { on := 22, ground := Ground.data }, { on := 12, ground := Ground.guard }], guard := some (12, false) }) (v := ?_) rfl (by kernel_rfl) (by kernel_rfl) (by kernel_rfl) (fun _ _ _ h => h) (Or.inl ⟨by rfl, ?_⟩) (by assumption) ?_
                  rotate_left
                  focus (intro w hSw; (try dsimp only at hSw); go_simp; try (with_reducible rfl))
                  try simp only [Act.put, List.setIfInBounds_toArray, List.set_cons_zero, List.set_cons_succ]
                  refine wpAnyH_take (i := 24) (oi := { dst := some 71, op := Op.pick (Operand.tmp 59) (Operand.const (Value.bool true)) (Operand.tmp 70), type := 4, pos := "law.go:70", after := #[{ on := 12, ground := Ground.data }, { on := 23, ground := Ground.data }], guard := none }) (v := ?_) rfl (by kernel_rfl) (by kernel_rfl) (by kernel_rfl) (fun _ _ _ h => h) (Or.inl ⟨by rfl, ?_⟩) (by assumption) ?_
                  rotate_left
                  focus (intro w hSw; (try dsimp only at hSw); go_simp; try (with_reducible rfl))
                  try simp only [Act.put, List.setIfInBounds_toArray, List.set_cons_zero, List.set_cons_succ]
                  refine wpAnyH_take (i := 25) (oi := { dst := some 72, op := Op.move (Operand.tmp 71), type := 4, pos := "law.go:70", after := #[{ on := 24, ground := Ground.data }, { on := 22, ground := Ground.chain }], guard := none }) (v := ?_) rfl (by kernel_rfl) (by kernel_rfl) (by kernel_rfl) (fun _ _ _ h => h) (Or.inl ⟨by rfl, ?_⟩) (by assumption) ?_
                  rotate_left
                  focus (intro w hSw; (try dsimp only at hSw); go_simp; try (with_reducible rfl))
                  try simp only [Act.put, List.setIfInBounds_toArray, List.set_cons_zero, List.set_cons_succ]
                  refine wpAnyH_take (i := 26) (oi := { dst := some 73, op := Op.move (Operand.tmp 7), type := 26, pos := "law.go:70", after := #[{ on := 25, ground := Ground.guard }], guard := some (25, false) }) (v := ?_) rfl (by kernel_rfl) (by kernel_rfl) (by kernel_rfl) (fun _ _ _ h => h) (Or.inl ⟨by rfl, ?_⟩) (by assumption) ?_
                  rotate_left
                  focus (intro w hSw; (try dsimp only at hSw); go_simp; try (with_reducible rfl))
                  try simp only [Act.put, List.setIfInBounds_toArray, List.set_cons_zero, List.set_cons_succ]
                  refine wpAnyH_take (i := 27) (oi := { dst := some 74, op := Op.move (Operand.tmp 12), type := 3, pos := "law.go:70", after := #[{ on := 25, ground := Ground.guard }], guard := some (25, false) }) (v := ?_) rfl (by kernel_rfl) (by kernel_rfl) (by kernel_rfl) (fun _ _ _ h => h) (Or.inl ⟨by rfl, ?_⟩) (by assumption) ?_
                  rotate_left
                  focus (intro w hSw; (try dsimp only at hSw); go_simp; try (with_reducible rfl))
                  try simp only [Act.put, List.setIfInBounds_toArray, List.set_cons_zero, List.set_cons_succ]
                  refine wpAnyH_take (i := 28) (oi := { dst := some 75, op := Op.indexAddr 26 (Operand.tmp 73) (Operand.tmp 74), type := 0, pos := "law.go:70", after := #[{ on := 26, ground := Ground.data }, { on := 27, ground := Ground.data }, { on := 25, ground := Ground.guard }], guard := some (25, false) }) (v := ?_) rfl (by kernel_rfl) (by kernel_rfl) (by kernel_rfl) (fun _ _ _ h => h) (Or.inl ⟨by rfl, ?_⟩) (by assumption) ?_
                  rotate_left
                  focus (intro w hSw; (try dsimp only at hSw); go_simp; try (with_reducible rfl))
                  try simp only [Act.put, List.setIfInBounds_toArray, List.set_cons_zero, List.set_cons_succ]
                  refine wpAnyH_take (i := 29) (oi := { dst := some 76, op := Op.load 24 (Operand.tmp 75), type := 24, pos := "law.go:70", after := #[{ on := 28, ground := Ground.data }, { on := 25, ground := Ground.guard }], guard := some (25, false) }) (v := ?_) rfl (by kernel_rfl) (by kernel_rfl) (by kernel_rfl) (fun _ _ _ h => h) (Or.inl ⟨by rfl, ?_⟩) (by assumption) ?_
                  rotate_left
                  focus (intro w hSw; (try dsimp only at hSw); go_simp; try (with_reducible rfl))
                  try simp only [Act.put, List.setIfInBounds_toArray, List.set_cons_zero, List.set_cons_succ]
                  refine wpAnyH_take (i := 31) (oi := { dst := some 78, op := Op.move (Operand.tmp 8), type := 31, pos := "law.go:70", after := #[{ on := 25, ground := Ground.guard }], guard := some (25, false) }) (v := ?_) rfl (by kernel_rfl) (by kernel_rfl) (by kernel_rfl) (fun _ _ _ h => h) (Or.inl ⟨by rfl, ?_⟩) (by assumption) ?_
                  rotate_left
                  focus (intro w hSw; (try dsimp only at hSw); go_simp; try (with_reducible rfl))
                  try simp only [Act.put, List.setIfInBounds_toArray, List.set_cons_zero, List.set_cons_succ]
                  refine wpAnyH_take (i := 32) (oi := { dst := some 79, op := Op.move (Operand.tmp 12), type := 3, pos := "law.go:70", after := #[{ on := 25, ground := Ground.guard }], guard := some (25, false) }) (v := ?_) rfl (by kernel_rfl) (by kernel_rfl) (by kernel_rfl) (fun _ _ _ h => h) (Or.inl ⟨by rfl, ?_⟩) (by assumption) ?_
                  rotate_left
                  focus (intro w hSw; (try dsimp only at hSw); go_simp; try (with_reducible rfl))
                  try simp only [Act.put, List.setIfInBounds_toArray, List.set_cons_zero, List.set_cons_succ]
                  refine wpAnyH_take (i := 33) (oi := { dst := some 80, op := Op.indexAddr 31 (Operand.tmp 78) (Operand.tmp 79), type := 0, pos := "law.go:70", after := #[{ on := 31, ground := Ground.data }, { on := 32, ground := Ground.data }, { on := 25, ground := Ground.guard }], guard := some (25, false) }) (v := ?_) rfl (by kernel_rfl) (by kernel_rfl) (by kernel_rfl) (fun _ _ _ h => h) (Or.inl ⟨by rfl, ?_⟩) (by assumption) ?_
                  rotate_left
                  focus (intro w hSw; (try dsimp only at hSw); go_simp; try (with_reducible rfl))
                  try simp only [Act.put, List.setIfInBounds_toArray, List.set_cons_zero, List.set_cons_succ]
                  refine wpAnyH_take (i := 34) (oi := { dst := some 81, op := Op.fieldAddr 29 (Operand.tmp 80) 2, type := 0, pos := "law.go:70", after := #[{ on := 33, ground := Ground.data }, { on := 25, ground := Ground.guard }], guard := some (25, false) }) (v := ?_) rfl (by kernel_rfl) (by kernel_rfl) (by kernel_rfl) (fun _ _ _ h => h) (Or.inl ⟨by rfl, ?_⟩) (by assumption) ?_
                  rotate_left
                  focus (intro w hSw; (try dsimp only at hSw); go_simp; try (with_reducible rfl))
                  try simp only [Act.put, List.setIfInBounds_toArray, List.set_cons_zero, List.set_cons_succ]
                  refine wpAnyH_take (i := 35) (oi := { dst := some 82, op := Op.load 4 (Operand.tmp 81), type := 4, pos := "law.go:70", after := #[{ on := 34, ground := Ground.data }, { on := 25, ground := Ground.guard }], guard := some (25, false) }) (v := ?_) rfl (by kernel_rfl) (by kernel_rfl) (by kernel_rfl) (fun _ _ _ h => h) (Or.inl ⟨by rfl, ?_⟩) (by assumption) ?_
                  rotate_left
                  focus (intro w hSw; (try dsimp only at hSw); go_simp; try (with_reducible rfl))
                  try simp only [Act.put, List.setIfInBounds_toArray, List.set_cons_zero, List.set_cons_succ]
                  refine wpAnyH_ready (rs := [30]) (by kernel_rfl) (by simp) (AllReadyH.cons (o := { dst := some 77, op := Op.call { callee := Callee.value (Operand.func 18), args := #[Operand.tmp 76], argTypes := #[24] }, type := 4, pos := "law.go:70", after := #[{ on := 29, ground := Ground.data }, { on := 25, ground := Ground.chain }, { on := 25, ground := Ground.guard }], guard := some (25, false) }) rfl (fun K hK => ?_) AllReadyH.nil)
                  go_simp
                  (go_at_call 18; refine (over_any (s + 2) r2 A2 false _ (MQ.q2 (MQ.of_s (by assumption)))).mono ?_; rintro e w10 ⟨rfl, rfl⟩; rw [HOV.out])
                  go_wp2_with fail
                  refine hK.out _ _ (by assumption) (fun hHeld => ?_)
                  clear hK K
                  try simp only [Act.put, List.setIfInBounds_toArray, List.set_cons_zero, List.set_cons_succ]
                  refine wpAnyH_take (i := 36) (oi := { dst := some 83, op := Op.move (Operand.tmp 82), type := 4, pos := "law.go:70", after := #[{ on := 35, ground := Ground.data }, { on := 30, ground := Ground.chain }, { on := 25, ground := Ground.guard }], guard := some (25, false) }) (v := ?_) rfl (by kernel_rfl) (by kernel_rfl) (by kernel_rfl) (fun _ _ _ h => h) (Or.inl ⟨by rfl, ?_⟩) (by assumption) ?_
                  rotate_left
                  focus (intro w hSw; (try dsimp only at hSw); go_simp; try (with_reducible rfl))
                  try simp only [Act.put, List.setIfInBounds_toArray, List.set_cons_zero, List.set_cons_succ]
                  refine wpAnyH_take (i := 37) (oi := { dst := some 84, op := Op.move (Operand.tmp 8), type := 31, pos := "law.go:70", after := #[{ on := 36, ground := Ground.guard }], guard := some (36, true) }) (v := undef) rfl (by kernel_rfl) (by kernel_rfl) (by kernel_rfl) (fun _ _ _ h => h) (Or.inr ⟨by rfl, rfl⟩) (by assumption) ?_
                  try simp only [Act.put, List.setIfInBounds_toArray, List.set_cons_zero, List.set_cons_succ]
                  refine wpAnyH_take (i := 38) (oi := { dst := some 85, op := Op.move (Operand.tmp 12), type := 3, pos := "law.go:70", after := #[{ on := 36, ground := Ground.guard }], guard := some (36, true) }) (v := undef) rfl (by kernel_rfl) (by kernel_rfl) (by kernel_rfl) (fun _ _ _ h => h) (Or.inr ⟨by rfl, rfl⟩) (by assumption) ?_
                  try simp only [Act.put, List.setIfInBounds_toArray, List.set_cons_zero, List.set_cons_succ]
                  refine wpAnyH_take (i := 39) (oi := { dst := some 86, op := Op.indexAddr 31 (Operand.tmp 84) (Operand.tmp 85), type := 0, pos := "law.go:70", after := #[{ on := 37, ground := Ground.data }, { on := 38, ground := Ground.data }, { on := 36, ground := Ground.guard }], guard := some (36, true) }) (v := undef) rfl (by kernel_rfl) (by kernel_rfl) (by kernel_rfl) (fun _ _ _ h => h) (Or.inr ⟨by rfl, rfl⟩) (by assumption) ?_
                  try simp only [Act.put, List.setIfInBounds_toArray, List.set_cons_zero, List.set_cons_succ]
                  refine wpAnyH_take (i := 40) (oi := { dst := some 87, op := Op.fieldAddr 29 (Operand.tmp 86) 0, type := 0, pos := "law.go:70", after := #[{ on := 39, ground := Ground.data }, { on := 36, ground := Ground.guard }], guard := some (36, true) }) (v := undef) rfl (by kernel_rfl) (by kernel_rfl) (by kernel_rfl) (fun _ _ _ h => h) (Or.inr ⟨by rfl, rfl⟩) (by assumption) ?_
                  try simp only [Act.put, List.setIfInBounds_toArray, List.set_cons_zero, List.set_cons_succ]
                  refine wpAnyH_take (i := 41) (oi := { dst := some 88, op := Op.load 27 (Operand.tmp 87), type := 27, pos := "law.go:70", after := #[{ on := 40, ground := Ground.data }, { on := 36, ground := Ground.guard }], guard := some (36, true) }) (v := undef) rfl (by kernel_rfl) (by kernel_rfl) (by kernel_rfl) (fun _ _ _ h => h) (Or.inr ⟨by rfl, rfl⟩) (by assumption) ?_
                  try simp only [Act.put, List.setIfInBounds_toArray, List.set_cons_zero, List.set_cons_succ]
                  refine wpAnyH_take (i := 42) (oi := { dst := some 89, op := Op.call { callee := Callee.builtin Builtin.len, args := #[Operand.tmp 88], argTypes := #[27] }, type := 3, pos := "law.go:70", after := #[{ on := 41, ground := Ground.data }, { on := 36, ground := Ground.guard }], guard := some (36, true) }) (v := undef) rfl (by kernel_rfl) (by kernel_rfl) (by kernel_rfl) (fun _ _ _ h => h) (Or.inr ⟨by rfl, rfl⟩) (by assumption) ?_
                  try simp only [Act.put, List.setIfInBounds_toArray, List.set_cons_zero, List.set_cons_succ]
                  refine wpAnyH_take (i := 43) (oi := { dst := some 90, op := Op.binOp BinOp.eql 3 (Operand.tmp 89) (Operand.const (Value.int IntKind.i64 0)) 3, type := 4, pos := "law.go:70", after := #[{ on := 42, ground := Ground.data }, { on := 36, ground := Ground.guard }], guard := some (36, true) }) (v := undef) rfl (by kernel_rfl) (by kernel_rfl) (by kernel_rfl) (fun _ _ _ h => h) (Or.inr ⟨by rfl, rfl⟩) (by assumption) ?_
                  try simp only [Act.put, List.setIfInBounds_toArray, List.set_cons_zero, List.set_cons_succ]
                  refine wpAnyH_take (i := 44) (oi := { dst := some 91, op := Op.pick (Operand.tmp 83) (Operand.tmp 90) (Operand.const (Value.bool false)), type := 4, pos := "law.go:70", after := #[{ on := 36, ground := Ground.data }, { on := 43, ground := Ground.data }, { on := 25, ground := Ground.guard }], guard := some (25, false) }) (v := ?_) rfl (by kernel_rfl) (by kernel_rfl) (by kernel_rfl) (fun _ _ _ h => h) (Or.inl ⟨by rfl, ?_⟩) (by assumption) ?_
                  rotate_left
                  focus (intro w hSw; (try dsimp only at hSw); go_simp; try (with_reducible rfl))
                  try simp only [Act.put, List.setIfInBounds_toArray, List.set_cons_zero, List.set_cons_succ]
                  refine wpAnyH_take (i := 45) (oi := { dst := some 92, op := Op.binOp BinOp.neq 4 (Operand.tmp 77) (Operand.tmp 91) 4, type := 4, pos := "law.go:70", after := #[{ on := 30, ground := Ground.data }, { on := 44, ground := Ground.data }, { on := 25, ground := Ground.guard }], guard := some (25, false) }) (v := ?_) rfl (by kernel_rfl) (by kernel_rfl) (by kernel_rfl) (fun _ _ _ h => h) (Or.inl ⟨by rfl, ?_⟩) (by assumption) ?_
                  rotate_left
                  focus (intro w hSw; (try dsimp only at hSw); go_simp; try (with_reducible rfl))
                  try simp only [Act.put, List.setIfInBounds_toArray, List.set_cons_zero, List.set_cons_succ]
                  refine wpAnyH_take (i := 46) (oi := { dst := some 93, op := Op.pick (Operand.tmp 72) (Operand.const (Value.bool true)) (Operand.tmp 92), type := 4, pos := "law.go:70", after := #[{ on := 25, ground := Ground.data }, { on := 45, ground := Ground.data }], guard := none }) (v := ?_) rfl (by kernel_rfl) (by kernel_rfl) (by kernel_rfl) (fun _ _ _ h => h) (Or.inl ⟨by rfl, ?_⟩) (by assumption) ?_
                  rotate_left
                  focus (intro w hSw; (try dsimp only at hSw); go_simp; try (with_reducible rfl))
                  try simp only [Act.put, List.setIfInBounds_toArray, List.set_cons_zero, List.set_cons_succ]
                  refine wpAnyH_done (by kernel_rfl) ?_ _
                  go_wp2_with fail
                  go_meet
                  exact ⟨rfl, _, _, _, _, _, _, MQ.of_s (by assumption)⟩
                · subst hc
                  have HOV := Lib.hid hov
                  clear hov
                  first
                  | (go_region_held3 (fun W => W.cell? ⟨s + 4, 0, none⟩ = some (.pointer (some ⟨s + 1, 0, none⟩)) ∧ W.cell? ⟨s + 4, 1, none⟩ = some (.pointer (some ⟨s + 2 + 1, 0, none⟩)) ∧ W.cell? ⟨t, 0, none⟩ = some (.slice va n1 vc) ∧ W.cell? ⟨t, 1, none⟩ = some (.int .i64 r1) ∧ W.cell? ⟨t, 2, none⟩ = some (.bool c1) ∧ W.cell? ⟨t, 3, none⟩ = some (.slice wa n2 wc) ∧ W.cell? ⟨t, 4, none⟩ = some (.int .i64 r2) ∧ W.cell? ⟨t, 5, none⟩ = some (.bool true) ∧ MQ s (s + 4) t w1 r1 r2 A1 c1 A2 true A1 c1 (.slice va n1 vc) A2 true (.slice wa n2 wc) W)
                    (with_reducible (first | assumption | exact MQ.kf (MQ.drew HM.out) | exact MQ.kf (MQ.drewN (MQ.of_s (by assumption)) _) | exact MQ.kf (MQ.below (MQ.of_s (by assumption)) (by assumption))))
                    (first
                    | (go_at_call 15; refine (len_any (s + 2) r2 A2 true _ (MQ.q2 (MQ.of_s (by assumption)))).mono ?_; rintro e w8 ⟨rfl, rfl⟩; rw [HN2.out])
                    | (go_at_call 16; refine (room_any (s + 2) r2 A2 true _ (MQ.q2 (MQ.of_s (by assumption)))).mono ?_; rintro e w8 ⟨rfl, nn, rfl⟩; rw [← HRM.out]; skip)
                    | (go_at_call 17; refine (rroom_at (Aft t) r2 (.slice wa n2 wc) true A2 _ (MQ.v2 (MQ.of_s (by assumption))) (by omega)).mono ?_; rintro e w9 ⟨rfl, U9⟩; rw [← HRM.out])
                    | (go_at_call 18; refine (over_any (s + 2) r2 A2 true _ (MQ.q2 (MQ.of_s (by assumption)))).mono ?_; rintro e w10 ⟨rfl, rfl⟩; rw [HOV.out])))
                  | fail
                  all_goals
                    go_wp2_with fail
                    go_meet
                    exact ⟨rfl, _, _, _, _, _, _, MQ.of_s (by assumption)⟩
                · subst hc
                  have HOV := Lib.hid hov
                  clear hov
                  first
                  | (go_region_held3 (fun W => W.cell? ⟨s + 4, 0, none⟩ = some (.pointer (some ⟨s + 1, 0, none⟩)) ∧ W.cell? ⟨s + 4, 1, none⟩ = some (.pointer (some ⟨s + 2 + 1, 0, none⟩)) ∧ W.cell? ⟨t, 0, none⟩ = some (.slice va n1 vc) ∧ W.cell? ⟨t, 1, none⟩ = some (.int .i64 r1) ∧ W.cell? ⟨t, 2, none⟩ = some (.bool c1) ∧ W.cell? ⟨t, 3, none⟩ = some (.slice wa n2 wc) ∧ W.cell? ⟨t, 4, none⟩ = some (.int .i64 r2) ∧ W.cell? ⟨t, 5, none⟩ = some (.bool true) ∧ MQ s (s + 4) t w1 r1 r2 A1 c1 A2 true A1 c1 (.slice va n1 vc) A2 true (.slice wa n2 wc) W)
                    (with_reducible (first | assumption | exact MQ.kf (MQ.drew HM.out) | exact MQ.kf (MQ.drewN (MQ.of_s (by assumption)) _) | exact MQ.kf (MQ.below (MQ.of_s (by assumption)) (by assumption))))
                    (first
                    | (go_at_call 15; refine (len_any (s + 2) r2 A2 true _ (MQ.q2 (MQ.of_s (by assumption)))).mono ?_; rintro e w8 ⟨rfl, rfl⟩; rw [HN2.out])
                    | (go_at_call 16; refine (room_any (s + 2) r2 A2 true _ (MQ.q2 (MQ.of_s (by assumption)))).mono ?_; rintro e w8 ⟨rfl, nn, rfl⟩; rw [← HRM.out]; skip)
                    | (go_at_call 17; refine (rroom_at (Aft t) r2 (.slice wa n2 wc) true A2 _ (MQ.v2 (MQ.of_s (by assumption))) (by omega)).mono ?_; rintro e w9 ⟨rfl, U9⟩; rw [← HRM.out])
                    | (go_at_call 18; refine (over_any (s + 2) r2 A2 true _ (MQ.q2 (MQ.of_s (by assumption)))).mono ?_; rintro e w10 ⟨rfl, rfl⟩; rw [HOV.out])))
                  | fail
                  all_goals
                    go_wp2_with fail
                    go_meet
                    exact ⟨rfl, _, _, _, _, _, _, MQ.of_s (by assumption)⟩
              case rest =>
                obtain ⟨rfl, hE⟩ := hcut
                have HE8 := Lib.hid hE
                clear hE kf hcase
                go_wp2_with fail
                go_roundw
                case rel => exact ⟨2, .inr (.inr rfl), rfl, HE8.out⟩
                case measure => simp [intOf]
            · go_wp2_with fail
              go_roundw
              case rel => exact ⟨k + 1, by omega, by go_num, E7⟩
              case measure => simp [intOf]; omega
      · obtain rfl : n = k := by omega
        obtain ⟨A1, c1, A2, c2, u1, u2, M⟩ := HE.out
        have HM := Lib.hid M
        have hf1 : A1.length ≤ 1024 := by have := M.q1.fits; have := M.q1.most; omega
        have hf2 : A2.length ≤ 1024 := by have := M.q2.fits; have := M.q2.most; omega
        have hml : A1.length ≤ maxLen ∧ A2.length ≤ maxLen := by unfold maxLen; omega
        have HML := Lib.hid hml
        have HF1 := Lib.hid hf1
        have HF2 := Lib.hid hf2
        have kc := M.kc
        clear M HE hf1 hf2 hml
        go_wp2_with fail
        first
        | (go_region_held3 (fun W => W.cell? ⟨s + 4, 0, none⟩ = some (.pointer (some ⟨s + 1, 0, none⟩)) ∧ W.cell? ⟨s + 4, 1, none⟩ = some (.pointer (some ⟨s + 2 + 1, 0, none⟩)) ∧ W.cell? ⟨t, 0, none⟩ = some u1 ∧ W.cell? ⟨t, 3, none⟩ = some u2)
          (with_reducible (first | assumption | exact MQ.kc (MQ.drew HM.out) | exact MQ.kc (by assumption) | exact MQ.kc (MQ.drewN (by assumption) _)))
          (first
          | (go_at_call 20; (with_reducible refine (taken_most s r1 A1 c1 _ HM.out.drew.q1).mono ?_); rintro e w8 ⟨v1, rfl, O1, Q1, T1⟩; have M1 := MQ.turn1 HM.out.drew Q1 T1; have K1 := Took.at (s := s) (room := r1) O1 (by have := HF1.out; omega); clear O1 Q1 T1)
          | (go_at_call 20; (with_reducible refine (taken_most (s + 2) r2 A2 c2 _ (MQ.q2 (by assumption))).mono ?_); rintro e w9 ⟨v2, rfl, O2, Q2, T2⟩; have M2 := MQ.turn2 (by assumption) Q2 T2; have K2 := Took.at (s := s) (room := r2) O2 (by have := HF2.out; omega); clear O2 Q2 T2)
          | (go_at_call 19; (with_reducible refine (sameInts_any v1 u1 A1 A1 _ (Took.row (by assumption)) (MQ.v1 (by assumption)).toRow HML.out.1).mono ?_); rintro e w10 ⟨rfl, nn, rfl⟩; rw [decide_eq_true rfl]; have M3 := MQ.drewN (by assumption) nn)
          | (go_at_call 19; (with_reducible refine (sameInts_any v2 u2 A2 A2 _ (Took.row (by assumption)) (MQ.v2 (by assumption)).toRow HML.out.2).mono ?_); rintro e w11 ⟨rfl, nn, rfl⟩; rw [decide_eq_true rfl]; have M4 := MQ.drewN (by assumption) nn)))
        | fail
        all_goals
          go_wp2_with fail
          go_ret
          exact ⟨rfl, HB1.out.trans (M4.old.mono hsw)⟩
/-- MailPlays returns true. -/
theorem mailPlays_law {w : World} (a : Int) (ha : (Lit.int .i64 a).wf = true) (b : Int) (hb : (Lit.int .i64 b).wf = true) (v : Value) (ops : List (Int × Int × Bool)) (h : Open.OpsAt w v ops ∧ ops.length ≤ maxLen ∧ ∀ p ∈ ops, Open.I64 p.1 ∧ Open.I64 p.2.1) :
    Calls Try.prog 3 #[.int .i64 a, .int .i64 b, v] w fun e W' => e = .returned (.bool true) ∧ Below w.heap.size w W' :=
  mailPlays_walk (fun s g t w W r1 r2 i hi kind x oth h => step_any i hi kind x oth h) a b v ops w h.1 h.2.1
end Go.Proofs.Ytndhhpiklaffoaa.Mail
