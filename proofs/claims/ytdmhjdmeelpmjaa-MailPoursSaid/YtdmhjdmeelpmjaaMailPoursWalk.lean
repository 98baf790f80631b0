/-
  The walk of MailPours.
-/
import Derived.Test.YtdmhjdmeelpmjaaMailPoursA
import Derived.Deep.RegionHeld3
import Derived.Deep.RegionWith
namespace Go.Proofs.Ytdmhjdmeelpmjaa.Mail
open Go.RowKit Go.Conc Go.Shelf
set_option linter.unusedVariables false

set_option maxRecDepth 100000 in
set_option maxHeartbeats 4000000 in
theorem mailPours_walk (a b : Int) (v1 v2 : Value) (xs ys : List Int) (w : World) (h1 : Open.RowOf .i64 w v1 xs) (h2 : Open.RowOf .i64 w v2 ys) (hm1 : xs.length ≤ maxLen) (hm2 : ys.length ≤ maxLen) :
    Calls Try.prog 5 #[.int .i64 a, .int .i64 b, v1, v2] w fun e W' => e = .returned (.bool true) ∧ Below w.heap.size w W' := by
  obtain ⟨i0, hi, hz0, hz1, hz2⟩ := info_parts info_int
  obtain ⟨x, xcap, rfl, hx⟩ := h1
  obtain ⟨y, ycap, rfl, hy⟩ := h2
  obtain ⟨n, hn⟩ : ∃ n, n = xs.length := ⟨_, rfl⟩
  obtain ⟨k, hk⟩ : ∃ k, k = ys.length := ⟨_, rfl⟩
  rw [← hn] at hm1 ⊢
  rw [← hk] at hm2 ⊢
  unfold maxLen at hm1 hm2
  have HX := Lib.hid hx
  have HY := Lib.hid hy
  have HN := Lib.hid hn
  have HK := Lib.hid hk
  clear hx hy hn hk
  by_cases hbig : 50 < n ∨ 50 < k
  · by_cases hb1 : 50 < n
    · have hd : decide ((50 : Int) < (n : Int)) = true := by simp; omega
      go_enter Try.func5, Try.ntmps5
      go_wp2_with (go_at_call 11; refine (alive_any _).mono ?_; rintro e w' ⟨rfl, hb⟩)
      go_ret
      exact ⟨rfl, hb⟩
    · have hd : decide ((50 : Int) < (n : Int)) = false := by simp; omega
      have hd2 : decide ((50 : Int) < (k : Int)) = true := by simp; omega
      go_enter Try.func5, Try.ntmps5
      go_wp2_with (go_at_call 11; refine (alive_any _).mono ?_; rintro e w' ⟨rfl, hb⟩)
      go_ret
      exact ⟨rfl, hb⟩
  · have hln : n ≤ 50 := by omega
    have hlk : k ≤ 50 := by omega
    have hd : decide ((50 : Int) < (n : Int)) = false := by simp; omega
    have hd2 : decide ((50 : Int) < (k : Int)) = false := by simp; omega
    clear hbig
    go_enter Try.func5, Try.ntmps5
    go_wp2_with fail
    refine (alive_any _).mono ?_
    rintro e w1 ⟨rfl, hb1⟩
    go_wp2_with fail
    refine (new_any _ _).mono ?_
    rintro e w2 ⟨rfl, q1, b2, z2⟩
    go_wp2_with fail
    refine (new_any _ _).mono ?_
    rintro e w3 ⟨rfl, q2, b3, z3⟩
    clear hd hd2
    obtain ⟨r1, hr1⟩ : ∃ r1, r1 = roomOf a := ⟨_, rfl⟩
    obtain ⟨r2, hr2⟩ : ∃ r2, r2 = roomOf b := ⟨_, rfl⟩
    obtain ⟨c1, hc1⟩ : ∃ c1, c1 = w1.heap.size := ⟨_, rfl⟩
    obtain ⟨c2, hc2⟩ : ∃ c2, c2 = w2.heap.size := ⟨_, rfl⟩
    rw [← hr1, ← hc1] at q1
    rw [← hr2, ← hc2] at q2
    rw [← hc1] at b2 z2 ⊢
    rw [← hc2] at b3 z3 z2 ⊢
    have hB3 : Below w.heap.size w w3 := hb1.trans ((b2.mono (by rw [hc1]; exact hb1.size)).trans (b3.mono (by have := hb1.size; omega)))
    have q1' := q1.below b3 (by omega)
    have hcc : w.heap.size ≤ c1 ∧ c1 + 2 ≤ c2 ∧ c2 + 2 ≤ w3.heap.size := by have := hb1.size; omega
    have hrm1 := q1.most
    have hrm2 := q2.most
    have hB0 := hB3.size
    obtain ⟨hcc1, hcc2, hcc3⟩ := hcc
    -- the two rows
    have R1 : Row w.heap.size w3.heap.size (.slice (some ⟨w3.heap.size, 0, none⟩) 0 0) [] ((w3.alloc (.cells #[] 3)).alloc (.cells #[] 3)) := (Row.new w3 hB0).below ((Below.refl _ _).alloc (Nat.le_refl _) _)
    have R2 : Row w.heap.size (w3.heap.size + 1) (.slice (some ⟨w3.heap.size + 1, 0, none⟩) 0 0) [] ((w3.alloc (.cells #[] 3)).alloc (.cells #[] 3)) := by
      have := Row.new (B := w.heap.size) (w3.alloc (.cells #[] 3)) (by simp; omega)
      rw [World.size_alloc] at this
      exact this
    have hB5 : Below w.heap.size w ((w3.alloc (.cells #[] 3)).alloc (.cells #[] 3)) := (hB3.alloc hB0 _).alloc (by simp; omega) _
    have Q1 : QAt ((w3.alloc (.cells #[] 3)).alloc (.cells #[] 3)) c1 r1 [] false := q1'.below (((Below.refl _ _).alloc (Nat.le_refl _) _).alloc (by simp) _) q1'.lt
    have Q2 : QAt ((w3.alloc (.cells #[] 3)).alloc (.cells #[] 3)) c2 r2 [] false := q2.below (((Below.refl _ _).alloc (Nat.le_refl _) _).alloc (by simp) _) q2.lt
    clear hr1 hr2 hc1 hc2 z2 z3 q1 q2 q1' b2 b3 hb1 hB3
    obtain ⟨s, hs⟩ : ∃ s, s = w3.heap.size := ⟨_, rfl⟩
    have HR1 := Lib.hid R1
    have HR2 := Lib.hid R2
    have HQ1 := Lib.hid Q1
    have HQ2 := Lib.hid Q2
    have HB5 := Lib.hid hB5
    clear R1 R2 Q1 Q2 hB5
    go_wp2
    rw [← hs] at HR1 HR2 hcc3 hB0 ⊢
    have HSS := Lib.hid hs
    clear hs
    go_loopw [11, 37] (fun v i wr => PourRel1 w.heap.size s w xs c1 r1 c2 r2 (s + 1) v i wr) (fun _ i _ => n - (intOf i).toNat)
    case atStart => exact ⟨0, s, by omega, rfl, by simpa using HQ1.out, HQ2.out, by simpa using HR1.out, HR2.out, by omega, HB5.out⟩
    case round =>
      obtain ⟨j, g, hj, rfl, Q1, Q2, R1, R2, hgt, hB⟩ := hrel
      clear HQ1 HQ2 HR1 HR2 HB5
      by_cases hjn : j < n
      · obtain ⟨gb, off, rfl, hxc⟩ := HX.out (by intro e; have := HN.out; rw [e] at this; simp at this; omega)
        have hjl : j < xs.length := by have := HN.out; omega
        obtain ⟨x, hx⟩ : ∃ x, x = xs[j]?.getD 0 := ⟨_, rfl⟩
        have hxj := hxc j hjl
        rw [← hx] at hxj
        have dx := (hB.cell (p := ⟨gb, off + j, none⟩) (World.block_lt_of_cell? w _ hxj)).trans hxj
        clear hxc hxj
        obtain ⟨A, hA⟩ : ∃ A, A = xs.take (min j r1) := ⟨_, rfl⟩
        rw [← hA] at R1 Q1
        have hAl : A.length ≤ 50 := by rw [hA, List.length_take]; omega
        obtain ⟨vc, rfl⟩ := R1.at_
        have hBz := hB.size
        have HA := Lib.hid hA
        by_cases hr : j < r1
        · obtain ⟨p1, p2, p3⟩ := put_take_room x hjl hr hx
          rw [← hA] at p1 p2 p3
          have P1 := Lib.hid p1
          have P2 := Lib.hid p2
          have P3 := Lib.hid p3
          have HB := Lib.hid hB
          have HRR2 := Lib.hid R2
          have HRR1 := Lib.hid R1
          have HQQ2 := Lib.hid Q2
          clear p1 p2 p3 hx hB R2 Q2 R1 hA
          go_wp2_with fail
          refine (put_any _ _ _ _ _ _ Q1).mono ?_
          rintro e w4 ⟨rfl, q1, t1, z1⟩
          rw [P1.out]
          rw [P2.out] at q1
          have R1' := HRR1.out.turn Q1 t1
          have R2' := HRR2.out.turn Q1 t1
          have Q2' := HQQ2.out.keep t1 (by unfold Of; omega) (by unfold Of; omega)
          have hB4 := HB.out.trans (t1.below HB.out.size (by unfold Of; omega))
          have hz4 : w.heap.size ≤ w4.heap.size := by omega
          have hg4 := R1'.lt
          have ht4 := R2'.lt
          clear z1 t1 Q1 HRR1 HRR2 HQQ2
          have ha : Below w4.heap.size w4 (w4.alloc (.cells #[.int .i64 x] 3)) := (Below.refl _ w4).alloc (Nat.le_refl _) _
          have R1a := R1'.below ha
          have R2a := R2'.below ha
          have Q1a := q1.below ha q1.lt
          have Q2a := Q2'.below ha Q2'.lt
          have hBa := hB4.trans (ha.mono hz4)
          have hown := R1'.own.alloc (.cells #[.int .i64 x] 3)
          have HBa := Lib.hid hBa
          have HQ1 := Lib.hid Q1a
          have HQ2 := Lib.hid Q2a
          have HR1 := Lib.hid R1a
          have HR2 := Lib.hid R2a
          clear hB4 q1 Q2' R2' R1' ha R1a R2a Q1a Q2a hBa
          go_wp2_with (at_builtin; refine wpList_append_own_at _ rfl _ _ 27 rfl w.heap.size 3 i0 (.int .i64 0) 1 8 Try.underlying27 hi hz0 hz1 hz2 rfl (by decide) _ _ _ rfl hown ⟨w4.heap.size, 0, none⟩ 1 1 [.int .i64 x] rfl rfl (cell_one_new _ _ _) (by simp [Value.oneCell']) (by unfold maxLen; omega) (by omega) (by simp; omega) ?_; intro v' w5 hown' hgrow0 _ hat0; have hgrow : (w4.alloc (.cells #[.int .i64 x] 3)).grownBy w5 (some g) := hgrow0; have hat : v'.ownBlock = (Value.slice (some ⟨g, 0, none⟩) A.length vc).ownBlock ∨ v'.ownBlock = some (w4.alloc (.cells #[.int .i64 x] 3)).heap.size := hat0; clear hgrow0 hat0; obtain ⟨g', R', hg'⟩ := HR1.out.of_append rfl hown' hat; rw [World.size_alloc] at hg'; have R2' := HR2.out.keep (hgrow.block _ (by rw [World.size_alloc]; omega) (by simp; omega)); have Q1' := HQ1.out.grownRow HR1.out hgrow; have Q2' := HQ2.out.grownRow HR1.out hgrow; have hB5 := HBa.out.grown hgrow (by rw [World.size_alloc]; omega) (fun k e => by cases e; exact HR1.out.base); have HQ1' := Lib.hid Q1'; have HQ2' := Lib.hid Q2'; have HR' := Lib.hid R'; have HR2' := Lib.hid R2'; have HB5 := Lib.hid hB5; clear Q1' Q2' R' R2' hB5 hown' hgrow hat)
          go_roundw
          case rel => exact ⟨j + 1, g', by omega, by go_num, HQ1'.out, HQ2'.out, by rw [P3.out]; exact HR'.out, HR2'.out, by omega, HB5.out⟩
          case measure => simp [intOf]; omega
        · obtain ⟨p1, p2, p3⟩ := put_take_full x hjl hr
          rw [← hA] at p1 p2
          have P1 := Lib.hid p1
          have P2 := Lib.hid p2
          have P3 := Lib.hid p3
          have HB := Lib.hid hB
          have HRR2 := Lib.hid R2
          have HRR1 := Lib.hid R1
          have HQQ2 := Lib.hid Q2
          clear p1 p2 p3 hx hB R2 Q2 R1 hA
          go_wp2_with fail
          refine (put_any _ _ _ _ _ _ Q1).mono ?_
          rintro e w4 ⟨rfl, q1, t1, z1⟩
          rw [P1.out]
          rw [P2.out] at q1
          have HR1 := Lib.hid (HRR1.out.turn Q1 t1)
          have HR2 := Lib.hid (HRR2.out.turn Q1 t1)
          have HQ2 := Lib.hid (HQQ2.out.keep t1 (by unfold Of; omega) (by unfold Of; omega))
          have HB4 := Lib.hid (HB.out.trans (t1.below HB.out.size (by unfold Of; omega)))
          have HQ1 := Lib.hid q1
          clear z1 t1 Q1 HRR1 HRR2 HQQ2 q1
          go_wp2
          go_roundw
          case rel => exact ⟨j + 1, g, by omega, by go_num, by rw [P3.out, ← HA.out]; exact HQ1.out, HQ2.out, by rw [P3.out, ← HA.out]; exact HR1.out, HR2.out, hgt, HB4.out⟩
          case measure => simp [intOf]; omega
      · obtain rfl : j = n := by have := HN.out; omega
        obtain ⟨X, hX⟩ : ∃ X, X = xs.take (min j r1) := ⟨_, rfl⟩
        rw [← hX] at R1 Q1
        obtain ⟨vc0, rfl⟩ := R1.at_
        have hXl : X.length ≤ 50 := by rw [hX, List.length_take]; omega
        have hXr := Q1.fits
        have HQ1 := Lib.hid Q1
        have HQ2 := Lib.hid Q2
        have HR1 := Lib.hid R1
        have HR2 := Lib.hid R2
        have HB5 := Lib.hid hB
        clear Q1 Q2 R1 R2 hB hX
        obtain ⟨wo, hwo⟩ : ∃ wo : World, wo = wr := ⟨_, rfl⟩
        rw [← hwo] at HQ1 HQ2 HR1 HR2 HB5 ⊢
        clear hwo
        go_wp2
        go_loopw [12, 52] (fun v i wr => PourRel2 w.heap.size w X ys c1 r1 c2 r2 g (.slice (some ⟨g, 0, none⟩) X.length vc0) v i wr) (fun _ i _ => k - (intOf i).toNat)
        case atStart => exact ⟨0, s + 1, by omega, by rfl, HQ1.out, by simpa using HQ2.out, HR1.out, by simpa using HR2.out, hgt, HB5.out⟩
        case round =>
          obtain ⟨l, t, hl, rfl, Q1, Q2, R1, R2, hgt2, hB⟩ := hrel
          clear HQ1 HQ2 HR1 HR2 HB5
          by_cases hlk2 : l < k
          · obtain ⟨gb, off, rfl, hxc⟩ := HY.out (by intro e; have := HK.out; rw [e] at this; simp at this; omega)
            have hjl : l < ys.length := by have := HK.out; omega
            obtain ⟨x, hx⟩ : ∃ x, x = ys[l]?.getD 0 := ⟨_, rfl⟩
            have hxj := hxc l hjl
            rw [← hx] at hxj
            have dx := (hB.cell (p := ⟨gb, off + l, none⟩) (World.block_lt_of_cell? w _ hxj)).trans hxj
            clear hxc hxj
            obtain ⟨A, hA⟩ : ∃ A, A = ys.take (min l r2) := ⟨_, rfl⟩
            rw [← hA] at R2 Q2
            have hAl : A.length ≤ 50 := by rw [hA, List.length_take]; omega
            obtain ⟨vc, rfl⟩ := R2.at_
            have hBz := hB.size
            have HA := Lib.hid hA
            by_cases hr : l < r2
            · obtain ⟨p1, p2, p3⟩ := put_take_room x hjl hr hx
              rw [← hA] at p1 p2 p3
              have P1 := Lib.hid p1
              have P2 := Lib.hid p2
              have P3 := Lib.hid p3
              have HB := Lib.hid hB
              have HRR2 := Lib.hid R2
              have HRR1 := Lib.hid R1
              have HQQ1 := Lib.hid Q1
              clear p1 p2 p3 hx hB R2 Q1 R1 hA
              go_wp2_with fail
              refine (put_any _ _ _ _ _ _ Q2).mono ?_
              rintro e w4 ⟨rfl, q1, t1, z1⟩
              rw [P1.out]
              rw [P2.out] at q1
              have R1' := HRR1.out.turn Q2 t1
              have R2' := HRR2.out.turn Q2 t1
              have Q1' := HQQ1.out.keep t1 (by unfold Of; omega) (by unfold Of; omega)
              have hB4 := HB.out.trans (t1.below HB.out.size (by unfold Of; omega))
              have hz4 : w.heap.size ≤ w4.heap.size := by omega
              have hg4 := R1'.lt
              have ht4 := R2'.lt
              clear z1 t1 Q2 HRR1 HRR2 HQQ1
              have ha : Below w4.heap.size w4 (w4.alloc (.cells #[.int .i64 x] 3)) := (Below.refl _ w4).alloc (Nat.le_refl _) _
              have R1a := R1'.below ha
              have R2a := R2'.below ha
              have Q2a := q1.below ha q1.lt
              have Q1a := Q1'.below ha Q1'.lt
              have hBa := hB4.trans (ha.mono hz4)
              have hown := R2'.own.alloc (.cells #[.int .i64 x] 3)
              have HBa := Lib.hid hBa
              have HQ1 := Lib.hid Q1a
              have HQ2 := Lib.hid Q2a
              have HR1 := Lib.hid R1a
              have HR2 := Lib.hid R2a
              clear hB4 q1 Q1' R2' R1' ha R1a R2a Q1a Q2a hBa
              go_wp2_with (at_builtin; refine wpList_append_own_at _ rfl _ _ 27 rfl w.heap.size 3 i0 (.int .i64 0) 1 8 Try.underlying27 hi hz0 hz1 hz2 rfl (by decide) _ _ _ rfl hown ⟨w4.heap.size, 0, none⟩ 1 1 [.int .i64 x] rfl rfl (cell_one_new _ _ _) (by simp [Value.oneCell']) (by unfold maxLen; omega) (by omega) (by simp; omega) ?_; intro v' w5 hown' hgrow0 _ hat0; have hgrow : (w4.alloc (.cells #[.int .i64 x] 3)).grownBy w5 (some t) := hgrow0; have hat : v'.ownBlock = (Value.slice (some ⟨t, 0, none⟩) A.length vc).ownBlock ∨ v'.ownBlock = some (w4.alloc (.cells #[.int .i64 x] 3)).heap.size := hat0; clear hgrow0 hat0; obtain ⟨g', R', hg'⟩ := HR2.out.of_append rfl hown' hat; rw [World.size_alloc] at hg'; have R1' := HR1.out.keep (hgrow.block _ (by rw [World.size_alloc]; omega) (by simp; omega)); have Q1' := HQ1.out.grownRow HR2.out hgrow; have Q2' := HQ2.out.grownRow HR2.out hgrow; have hB5 := HBa.out.grown hgrow (by rw [World.size_alloc]; omega) (fun k e => by cases e; exact HR2.out.base); have HQ1' := Lib.hid Q1'; have HQ2' := Lib.hid Q2'; have HR' := Lib.hid R'; have HR1' := Lib.hid R1'; have HB5 := Lib.hid hB5; clear Q1' Q2' R' R1' hB5 hown' hgrow hat)
              go_roundw
              case rel => exact ⟨l + 1, g', by omega, by go_num, HQ1'.out, HQ2'.out, HR1'.out, by rw [P3.out]; exact HR'.out, by omega, HB5.out⟩
              case measure => simp [intOf]; omega
            · obtain ⟨p1, p2, p3⟩ := put_take_full x hjl hr
              rw [← hA] at p1 p2
              have P1 := Lib.hid p1
              have P2 := Lib.hid p2
              have P3 := Lib.hid p3
              have HB := Lib.hid hB
              have HRR2 := Lib.hid R2
              have HRR1 := Lib.hid R1
              have HQQ1 := Lib.hid Q1
              clear p1 p2 p3 hx hB R2 Q1 R1 hA
              go_wp2_with fail
              refine (put_any _ _ _ _ _ _ Q2).mono ?_
              rintro e w4 ⟨rfl, q1, t1, z1⟩
              rw [P1.out]
              rw [P2.out] at q1
              have HR1 := Lib.hid (HRR1.out.turn Q2 t1)
              have HR2 := Lib.hid (HRR2.out.turn Q2 t1)
              have HQ1 := Lib.hid (HQQ1.out.keep t1 (by unfold Of; omega) (by unfold Of; omega))
              have HB4 := Lib.hid (HB.out.trans (t1.below HB.out.size (by unfold Of; omega)))
              have HQ2 := Lib.hid q1
              clear z1 t1 Q2 HRR1 HRR2 HQQ1 q1
              go_wp2
              go_roundw
              case rel => exact ⟨l + 1, t, by omega, by go_num, HQ1.out, by rw [P3.out, ← HA.out]; exact HQ2.out, HR1.out, by rw [P3.out, ← HA.out]; exact HR2.out, hgt2, HB4.out⟩
              case measure => simp [intOf]; omega
          · obtain rfl : l = k := by have := HK.out; omega
            obtain ⟨Y, hY⟩ : ∃ Y, Y = ys.take (min l r2) := ⟨_, rfl⟩
            rw [← hY] at R2 Q2
            obtain ⟨vc1, rfl⟩ := R2.at_
            have hYl : Y.length ≤ 50 := by rw [hY, List.length_take]; omega
            have hYr := Q2.fits
            have hX1 := Q1.fits
            clear hY
            obtain ⟨wo, hwo⟩ : ∃ wo : World, wo = wr := ⟨_, rfl⟩
            rw [← hwo] at Q1 Q2 R1 R2 hB ⊢
            clear hwo
            have HR1 := Lib.hid R1
            have HR2 := Lib.hid R2
            have HQ1 := Lib.hid Q1
            have HB := Lib.hid hB
            have hBz := hB.size
            go_wp2_with fail
            refine (room_any _ _ _ _ _ Q2).mono ?_
            rintro e w4 ⟨rfl, n1, rfl⟩
            have hroom : roomL r2 Y false = ((r2 - Y.length : Nat) : Int) := by unfold roomL; rw [if_neg (by simp)]; omega
            obtain ⟨d, hdd⟩ : ∃ d, d = r2 - Y.length := ⟨_, rfl⟩
            rw [hroom, ← hdd]
            have HD := Lib.hid hdd
            clear hroom R1 R2 Q1 hB hdd
            go_wp2_with fail
            refine (pour_any _ _ _ _ _ _ _ _ _ (HQ1.out.drewN n1) (Q2.drewN n1) (.inl hcc2)).mono ?_
            rintro e w5 ⟨rfl, q1, q2, t1, z1⟩
            obtain ⟨m, hm⟩ : ∃ m, m = pourN r2 false X Y := ⟨_, rfl⟩
            have hm' : m = min d X.length := by rw [hm, HD.out]; simp [pourN]
            rw [← hm] at q1 q2 ⊢
            have hsep : ∀ i, i ≠ c1 → i ≠ c1 + 1 → i ≠ c2 → i ≠ c2 + 1 → ¬ Or2 (Of c1) (Of c2) i := fun i h1 h2 h3 h4 e => by unfold Or2 Of at e; omega
            have n1c := HR1.out.ne HQ1.out
            have n2c := HR1.out.ne Q2
            have n3c := HR2.out.ne HQ1.out
            have n4c := HR2.out.ne Q2
            have R1 : Row w.heap.size g (.slice (some ⟨g, 0, none⟩) X.length vc0) X w5 := HR1.out.keep ((t1.block g (by have := HR1.out.lt; simpa using this) (hsep g n1c.1 n1c.2 n2c.1 n2c.2)).trans (by simp))
            have R2 : Row w.heap.size t (.slice (some ⟨t, 0, none⟩) Y.length vc1) Y w5 := HR2.out.keep ((t1.block t (by have := HR2.out.lt; simpa using this) (hsep t n3c.1 n3c.2 n4c.1 n4c.2)).trans (by simp))
            have hB5 : Below w.heap.size w w5 := HB.out.trans ((⟨rfl, rfl, rfl, Nat.le_refl _, fun _ _ => rfl⟩ : Below w.heap.size wo (wo.drewN n1)).trans (t1.below (by simpa using hBz) (fun k e => by unfold Or2 Of at e; omega)))
            have hml : m ≤ X.length := by omega
            have hl1 : Calls Try.prog 15 #[.pointer (some ⟨c1 + 1, 0, none⟩)] w5 fun e w' => e = .returned (.int .i64 ((X.length : Int) - (m : Int))) ∧ w5 = w' :=
              (len_any _ _ _ _ _ q1).mono fun e w' ⟨he, hw⟩ => ⟨he.trans (ret_int (by rw [List.length_drop]; omega)), hw⟩
            have hl2 : Calls Try.prog 15 #[.pointer (some ⟨c2 + 1, 0, none⟩)] w5 fun e w' => e = .returned (.int .i64 ((Y.length : Int) + (m : Int))) ∧ w5 = w' :=
              (len_any _ _ _ _ _ q2).mono fun e w' ⟨he, hw⟩ => ⟨he.trans (ret_int (by rw [List.length_append, List.length_take]; omega)), hw⟩
            have HR1' := Lib.hid R1
            have HR2' := Lib.hid R2
            have HB5' := Lib.hid hB5
            have HM := Lib.hid hm'
            clear HR1 HR2 HQ1 HB n1c n2c n3c n4c hsep t1 z1 hm hm' R1 R2 hB5 Q2
            by_cases hmin : (d : Int) ≤ (X.length : Int)
            · have hmt : ((m : Int) != (d : Int)) = false := by have := HM.out; simp; omega
              have hml1 : (m : Int) ≤ (X.length : Int) := by omega
              go_upto_region 23 with (go_at_call 15; first | ((with_reducible refine hl1.mono ?_); rintro e w' ⟨rfl, rfl⟩) | ((with_reducible refine hl2.mono ?_); rintro e w' ⟨rfl, rfl⟩))
              have hT0 : Told0 w.heap.size w c1 r1 c2 r2 g t m X Y (.slice (some ⟨g, 0, none⟩) X.length vc0) (.slice (some ⟨t, 0, none⟩) Y.length vc1) w5.drew := (⟨q1, q2, HR1'.out, HR2'.out, HB5'.out, hcc2, hgt2, hcc1⟩ : Told0 w.heap.size w c1 r1 c2 r2 g t m X Y (.slice (some ⟨g, 0, none⟩) X.length vc0) (.slice (some ⟨t, 0, none⟩) Y.length vc1) w5).drewN 1
              have hvc0 := HR1'.out.cap
              have hvc : (m : Int) ≤ (vc0 : Int) := by omega
              have T0 := Lib.hid hT0
              clear hT0 hl1 hl2 q1 q2 HR1' HR2' HB5' hmt
              by_cases hcv : vc0 = m
              · have hcv' := hcv.symm
                subst hcv'
                have hat : X.drop m = [] := List.drop_of_length_le (by omega)
                have HAT := Lib.hid hat
                clear hat
                go_region_held3 (fun _ => True) (trivial)
                    (first
                    | (refine step_append rfl (.tmp 103) (.tmp 106) rfl rfl rfl T3 (by omega) (by omega) ?_; intro x3 w9 T4)
                    | (go_at_call 20; ((with_reducible refine (tell1 T0.out (by rw [List.length_drop]; omega)).mono ?_); rintro e w6 ⟨x1, rfl, rx1, T1⟩))
                    | (go_at_call 19; ((with_reducible refine (tell2 T1 rx1 (RowOf.empty HAT.out) (by rw [List.length_drop]; omega)).mono ?_); rintro e w7 ⟨rfl, T2⟩))
                    | (go_at_call 20; ((with_reducible refine (tell3 T2 (by rw [List.length_append, List.length_take]; omega)).mono ?_); rintro e w8 ⟨x2, rfl, T3⟩))
                    | (go_at_call 19; ((with_reducible refine (tell4 T4 (by rw [List.length_append, List.length_take]; omega)).mono ?_); rintro e w10 ⟨rfl, hB10⟩)))
                go_wp2
                go_ret
                exact ⟨rfl, hB10⟩
              · go_region_held3 (fun _ => True) (trivial)
                    (first
                    | (refine step_append rfl (.tmp 103) (.tmp 106) rfl rfl rfl T3 (by omega) (by omega) ?_; intro x3 w9 T4)
                    | (go_at_call 20; ((with_reducible refine (tell1 T0.out (by rw [List.length_drop]; omega)).mono ?_); rintro e w6 ⟨x1, rfl, rx1, T1⟩))
                    | (go_at_call 19; ((with_reducible refine (tell2 T1 rx1 (T1.ru.tail (by omega) (fun _ => rfl)) (by rw [List.length_drop]; omega)).mono ?_); rintro e w7 ⟨rfl, T2⟩))
                    | (go_at_call 20; ((with_reducible refine (tell3 T2 (by rw [List.length_append, List.length_take]; omega)).mono ?_); rintro e w8 ⟨x2, rfl, T3⟩))
                    | (go_at_call 19; ((with_reducible refine (tell4 T4 (by rw [List.length_append, List.length_take]; omega)).mono ?_); rintro e w10 ⟨rfl, hB10⟩)))
                go_wp2
                go_ret
                exact ⟨rfl, hB10⟩
            · have hmt : ((m : Int) != (X.length : Int)) = false := by have := HM.out; simp; omega
              have hml1 : (m : Int) ≤ (X.length : Int) := by omega
              go_upto_region 23 with (go_at_call 15; first | ((with_reducible refine hl1.mono ?_); rintro e w' ⟨rfl, rfl⟩) | ((with_reducible refine hl2.mono ?_); rintro e w' ⟨rfl, rfl⟩))
              have hT0 : Told0 w.heap.size w c1 r1 c2 r2 g t m X Y (.slice (some ⟨g, 0, none⟩) X.length vc0) (.slice (some ⟨t, 0, none⟩) Y.length vc1) w5.drew := (⟨q1, q2, HR1'.out, HR2'.out, HB5'.out, hcc2, hgt2, hcc1⟩ : Told0 w.heap.size w c1 r1 c2 r2 g t m X Y (.slice (some ⟨g, 0, none⟩) X.length vc0) (.slice (some ⟨t, 0, none⟩) Y.length vc1) w5).drewN 1
              have hvc0 := HR1'.out.cap
              have hvc : (m : Int) ≤ (vc0 : Int) := by omega
              have T0 := Lib.hid hT0
              clear hT0 hl1 hl2 q1 q2 HR1' HR2' HB5' hmt
              by_cases hcv : vc0 = m
              · have hcv' := hcv.symm
                subst hcv'
                have hat : X.drop m = [] := List.drop_of_length_le (by omega)
                have HAT := Lib.hid hat
                clear hat
                go_region_held3 (fun _ => True) (trivial)
                    (first
                    | (refine step_append rfl (.tmp 103) (.tmp 106) rfl rfl rfl T3 (by omega) (by omega) ?_; intro x3 w9 T4)
                    | (go_at_call 20; ((with_reducible refine (tell1 T0.out (by rw [List.length_drop]; omega)).mono ?_); rintro e w6 ⟨x1, rfl, rx1, T1⟩))
                    | (go_at_call 19; ((with_reducible refine (tell2 T1 rx1 (RowOf.empty HAT.out) (by rw [List.length_drop]; omega)).mono ?_); rintro e w7 ⟨rfl, T2⟩))
                    | (go_at_call 20; ((with_reducible refine (tell3 T2 (by rw [List.length_append, List.length_take]; omega)).mono ?_); rintro e w8 ⟨x2, rfl, T3⟩))
                    | (go_at_call 19; ((with_reducible refine (tell4 T4 (by rw [List.length_append, List.length_take]; omega)).mono ?_); rintro e w10 ⟨rfl, hB10⟩)))
                go_wp2
                go_ret
                exact ⟨rfl, hB10⟩
              · go_region_held3 (fun _ => True) (trivial)
                    (first
                    | (refine step_append rfl (.tmp 103) (.tmp 106) rfl rfl rfl T3 (by omega) (by omega) ?_; intro x3 w9 T4)
                    | (go_at_call 20; ((with_reducible refine (tell1 T0.out (by rw [List.length_drop]; omega)).mono ?_); rintro e w6 ⟨x1, rfl, rx1, T1⟩))
                    | (go_at_call 19; ((with_reducible refine (tell2 T1 rx1 (T1.ru.tail (by omega) (fun _ => rfl)) (by rw [List.length_drop]; omega)).mono ?_); rintro e w7 ⟨rfl, T2⟩))
                    | (go_at_call 20; ((with_reducible refine (tell3 T2 (by rw [List.length_append, List.length_take]; omega)).mono ?_); rintro e w8 ⟨x2, rfl, T3⟩))
                    | (go_at_call 19; ((with_reducible refine (tell4 T4 (by rw [List.length_append, List.length_take]; omega)).mono ?_); rintro e w10 ⟨rfl, hB10⟩)))
                go_wp2
                go_ret
                exact ⟨rfl, hB10⟩
/-- The walk, as the frame wants it. -/
theorem mailPours_law {w : World} (a : Int) (_ : (Lit.int .i64 a).wf = true) (b : Int) (_ : (Lit.int .i64 b).wf = true) (v1 : Value) (xs : List Int) (h1 : Open.RowOf .i64 w v1 xs ∧ xs.length ≤ maxLen ∧ ∀ n ∈ xs, Open.I64 n) (v2 : Value) (ys : List Int) (h2 : Open.RowOf .i64 w v2 ys ∧ ys.length ≤ maxLen ∧ ∀ n ∈ ys, Open.I64 n) :
    Calls Try.prog 5 #[.int .i64 a, .int .i64 b, v1, v2] w fun e W' => e = .returned (.bool true) ∧ Below w.heap.size w W' :=
  mailPours_walk a b v1 v2 xs ys w h1.1 h2.1 h1.2.1 h2.2.1
end Go.Proofs.Ytdmhjdmeelpmjaa.Mail
