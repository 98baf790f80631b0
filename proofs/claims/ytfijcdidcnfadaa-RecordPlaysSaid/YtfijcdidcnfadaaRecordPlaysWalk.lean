/-
  The walk of RecordPlays.
-/
import Derived.Test.YtfijcdidcnfadaaRecordDropsWalk
import Derived.Test.YtfijcdidcnfadaaRefA
import Derived.Test.YtfijcdidcnfadaaOpenF
namespace Go.Proofs.Ytfijcdidcnfadaa.Rec
open Go.RowKit Base Iac
set_option linter.unusedVariables false

/-- The maker beside all bytes that came. -/
structure PL (w : World) (s : Nat) (L : List Int) (v : Value) (W : World) : Prop where
  mak : MakAt W s (L.take 8192) (decide (8192 < L.length))
  row : OwnBytes (s + 1) W v L
  old : Below w.heap.size w W
  lo : w.heap.size ≤ s
section
variable {w W W' : World} {s : Nat} {L L' : List Int} {v v' : Value}
theorem PL.below (h : PL w s L v W) (t : Below W.heap.size W W') : PL w s L v W' := ⟨h.mak.below t, h.row.below t, h.old.trans (t.mono h.old.size), h.lo⟩
theorem mine_base (h : Below w.heap.size w W) (hs : w.heap.size ≤ s) (t : Turn (Mine W s) W W') : Below w.heap.size w W' := h.trans (t.below h.size fun k hk => by rcases hk with rfl | hk; exact hs; exact Nat.le_trans h.size hk)
theorem at_mine (t : Turn (At s) W W') : Turn (Mine W s) W W' := t.mono fun k hk => .inl hk
theorem PL.mine (h : PL w s L v W) (t : Turn (Mine W s) W W') (k : MakAt W' s (L'.take 8192) (decide (8192 < L'.length))) (r : OwnBytes (s + 1) W' v' L') : PL w s L' v' W' := ⟨k, r, mine_base h.old h.lo t, h.lo⟩
end
theorem laid_take (L X : List Int) : L.take 8192 ++ X.take (8192 - (L.take 8192).length) = (L ++ X).take 8192 := by
  rw [List.take_append, List.length_take]
  by_cases h : 8192 ≤ L.length
  · rw [show 8192 - min 8192 L.length = 0 by omega, show 8192 - L.length = 0 by omega]
  · rw [show 8192 - min 8192 L.length = 8192 - L.length by omega]
theorem laid_long (L X : List Int) : (decide (8192 < L.length) || decide (8192 - (L.take 8192).length < X.length)) = decide (8192 < (L ++ X).length) := by
  rw [List.length_take, List.length_append, Bool.eq_iff_iff]
  simp only [Bool.or_eq_true, decide_eq_true_eq]
  omega
theorem rows2_new {w : World} {u v : Value} {A B : List Int} (hu : RowOf .u8 w u A) (hv : RowOf .u8 w v B) : Rows8 (w.alloc (.cells #[u, v] 22)) (.slice (some ⟨w.heap.size, 0, none⟩) 2 2) [A, B] := by
  refine ⟨_, 2, rfl, fun _ => ⟨w.heap.size, 0, rfl, by rw [World.size_alloc]; omega, fun i r hi => ?_⟩⟩
  match i, hi with
  | 0, hi => simp at hi; subst hi; exact ⟨u, by simp [go_sem], hu.below (below_alloc w _)⟩
  | 1, hi => simp at hi; subst hi; exact ⟨v, by simp [go_sem], hv.below (below_alloc w _)⟩
def PlayRel (w : World) (s n : Nat) (v i : Value) (wr : World) : Prop := ∃ (k : Nat) (L : List Int), k ≤ n ∧ i = .int .i64 k ∧ L.length ≤ 9000 * k ∧ PL w s L v wr
set_option maxRecDepth 100000 in
set_option maxHeartbeats 8000000 in
theorem recordPlays_law {w : World} (v : Value) (E : List Ev) (hE : EvsAt w v E ∧ E.length ≤ maxLen ∧ ∀ p ∈ E, Open.EvOk p) :
    Calls Try.prog 7 #[v] w fun e W' => e = .returned (.bool true) ∧ Below w.heap.size w W' := by
  have hzm := (zero_of_info info_mk).1
  obtain ⟨hev, hel, _⟩ := hE
  obtain ⟨ae, ce, rfl, hrow⟩ := hev
  obtain ⟨n, hn⟩ : ∃ n, n = E.length := ⟨_, rfl⟩
  have HN := Lib.hid hn
  have HROW := Lib.hid hrow
  unfold maxLen at hel
  rw [← hn] at hel ⊢
  clear hn hrow
  by_cases hbig : 60 < n
  · have hbig' : (60 : Int) < n := by omega
    go_enter Try.func7, Try.ntmps7
    go_wp2_with fail
    refine (rec_alive w).mono ?_
    rintro e W1 ⟨rfl, b1⟩
    go_wp2_with fail
    go_ret
    exact ⟨rfl, b1⟩
  have hsm : (n : Int) ≤ 60 := by omega
  clear hbig
  go_enter Try.func7, Try.ntmps7
  go_wp2_with fail
  refine (rec_alive w).mono ?_
  rintro e W1 ⟨rfl, b1⟩
  have hpl : PL w W1.heap.size [] (.slice (some ⟨W1.heap.size + 1, 0, none⟩) 0 0) ((W1.alloc (.cells zmk 65)).alloc (.cells #[] 5)) := by
    have z1 := World.size_alloc W1 (.cells zmk 65)
    have b2 := below_alloc (W1.alloc (.cells zmk 65)) (.cells #[] 5)
    have o2 := own0 (s := W1.heap.size + 1) (w := W1.alloc (.cells zmk 65)) (by rw [z1]; omega)
    rw [z1] at o2
    exact ⟨(mak_new W1).below b2, o2, (b1.alloc b1.size _).alloc (by rw [z1]; have := b1.size; omega) _, b1.size⟩
  obtain ⟨W2, hW2⟩ : ∃ W2, W2 = (W1.alloc (.cells zmk 65)).alloc (.cells #[] 5) := ⟨_, rfl⟩
  obtain ⟨s, hs⟩ : ∃ s, s = W1.heap.size := ⟨_, rfl⟩
  rw [← hW2, ← hs] at hpl
  have HW2 := Lib.hid hW2.symm
  have HS := Lib.hid hs.symm
  have HPL := Lib.hid hpl
  clear b1 hpl hW2 hs
  go_upto_region 7 with fail
  rw [HW2.out, HS.out]
  go_wp2_with fail
  go_loopw [4, 18] (fun v i wr => PlayRel w s n v i wr) (fun _ i _ => n - (intOf i).toNat)
  case atStart => exact ⟨0, [], by omega, rfl, by simp, HPL.out⟩
  case round =>
    obtain ⟨k, L, hk, rfl, hLk, hP⟩ := hrel
    have HP := Lib.hid hP
    by_cases hkn : k < n
    · have hkl : k < E.length := by rw [← HN.out]; exact hkn
      obtain ⟨g, off, rfl, hgl, hc⟩ := HROW.out (by intro e; rw [e] at hkl; simp at hkl)
      obtain ⟨q, hq⟩ : ∃ q, E[k]? = some q := ⟨_, List.getElem?_eq_getElem hkl⟩
      obtain ⟨u, d0, d1, d2, d3, hu⟩ := hc k q hq
      obtain ⟨kd, cd, op, bs⟩ := q
      simp only at d0 d1 d2 hu
      have d0 := (hP.old.cell (p := ⟨g, off + k * 4, none⟩) hgl).trans d0
      have d1 := (hP.old.cell (p := ⟨g, off + k * 4 + 1, none⟩) hgl).trans d1
      have d2 := (hP.old.cell (p := ⟨g, off + k * 4 + 2, none⟩) hgl).trans d2
      have d3 := (hP.old.cell (p := ⟨g, off + k * 4 + 3, none⟩) hgl).trans d3
      have HU := Lib.hid hu
      obtain ⟨ua, ul, uc, rfl, hul⟩ : ∃ ua ul uc, u = .slice ua ul uc ∧ ul = bs.length := by
        obtain ⟨a', c', e', _⟩ := hu
        exact ⟨a', _, c', e', rfl⟩
      have HUL := Lib.hid hul
      obtain ⟨va, vc, rfl⟩ := hP.row.slice
      have hpl1 := hP.below (below_alloc wr (.cells #[.int .i64 kd, .int .u8 cd, .int .u8 op, .slice ua ul uc] 67))
      have hblk := heap_alloc_new wr (.cells #[.int .i64 kd, .int .u8 cd, .int .u8 op, .slice ua ul uc] 67)
      obtain ⟨W1, hW1⟩ : ∃ W1, W1 = wr.alloc (.cells #[.int .i64 kd, .int .u8 cd, .int .u8 op, .slice ua ul uc] 67) := ⟨_, rfl⟩
      obtain ⟨bx, hbx⟩ : ∃ bx, bx = wr.heap.size := ⟨_, rfl⟩
      rw [← hW1, ← hbx] at hblk
      rw [← hW1] at hpl1
      have hsbx : s < bx := by rw [hbx]; exact hP.mak.lt
      obtain ⟨l, hl⟩ : ∃ l, l = L.length := ⟨_, rfl⟩
      rw [← hl] at hLk
      have HL := Lib.hid hl
      have HW1 := Lib.hid hW1.symm
      have HBX := Lib.hid hbx.symm
      have HP1 := Lib.hid hpl1
      have HBK := Lib.hid hblk
      obtain ⟨b0, b1, b2, b3⟩ := boxed4 hblk
      have HSB := Lib.hid hsbx
      rw [← hl]
      rw [← hl] at HP1
      clear hpl1 hblk hW1 hbx hsbx hl hP HP hc hq hu hul hkl hgl
      go_upto_region 10 with fail
      rw [HW1.out, HBX.out]
      by_cases hbig : 9000 < ul
      · have hbig' : (9000 : Int) < ul := by omega
        have HO := Lib.hid HP1.out.old
        go_wp2_with fail
        go_ret
        exact ⟨rfl, HO.out⟩
      have hul9 : (ul : Int) ≤ 9000 := by omega
      clear hbig
      by_cases k1 : kd = 1
      · subst k1
        go_wp2_with fail
        refine (take_data cd op _ bs HP1.out.mak (HU.out.below HP1.out.old) (by have := HUL.out; omega)).mono ?_
        rintro e W2 ⟨rfl, hm2, ht2⟩
        rw [laid_take, laid_long] at hm2
        have hbk2 := (ht2.block bx (lt_of_block HBK.out) (fun e => by rcases e with e | e; have := HSB.out; omega; have := lt_of_block HBK.out; omega)).trans HBK.out
        have hrow2 := own_mine HP1.out.row ht2
        have hold2 := mine_base HP1.out.old HP1.out.lo ht2
        have hx2 := HU.out.below hold2
        have hrs := rows2_new hrow2.row hx2
        have hm3 := hm2.below (below_alloc W2 (.cells #[.slice va l vc, .slice ua ul uc] 22))
        have hold3 := hold2.alloc hold2.size (.cells #[.slice va l vc, .slice ua ul uc] 22)
        have hbk3 := (Below.heap_alloc W2 (.cells #[.slice va l vc, .slice ua ul uc] 22) bx (lt_of_block hbk2)).trans hbk2
        obtain ⟨W3, hW3⟩ : ∃ W3, W3 = W2.alloc (.cells #[.slice va l vc, .slice ua ul uc] 22) := ⟨_, rfl⟩
        rw [← hW3] at hrs hm3 hold3 hbk3
        have HW3 := Lib.hid hW3.symm
        have HRS := Lib.hid hrs
        have HM3 := Lib.hid hm3
        have HO3 := Lib.hid hold3
        have HBK3 := Lib.hid hbk3
        obtain ⟨c0, c1, c2, c3⟩ := boxed4 hbk2
        clear hm2 ht2 hrow2 hx2 hrs hm3 hold2 hold3 hbk2 hbk3 hW3 b0 b1 b2 b3
        go_wp2_with fail
        rw [HW3.out]
        refine (rjoin_any _ [L, bs] W3 HRS.out (by simp) (by simp; have := HUL.out; have := HL.out; omega)).mono ?_
        rintro e W4 ⟨p, rfl, hp, hb4⟩
        rw [show [L, bs].flatten = L ++ bs by simp] at hp
        have hs3 : s + 1 ≤ W3.heap.size := HM3.out.lt
        have hpl4 : PL w s (L ++ bs) p W4 := ⟨HM3.out.below hb4, hp.lower hs3, HO3.out.trans (hb4.mono HO3.out.size), HP1.out.lo⟩
        obtain ⟨f0, f1, f2, f3⟩ := boxed4 ((hb4.block bx (lt_of_block HBK3.out)).trans HBK3.out)
        obtain ⟨pa, pc, rfl⟩ := hp.slice
        obtain ⟨m, hm⟩ : ∃ m, m = (L ++ bs).length := ⟨_, rfl⟩
        rw [← hm] at hpl4 ⊢
        have HP4 := Lib.hid hpl4
        have HML := Lib.hid hm.symm
        have hmk : m ≤ 9000 * (k + 1) := by rw [hm, List.length_append, ← HL.out, ← HUL.out]; omega
        clear hp hb4 hpl4 hm hs3 c0 c1 c2 c3
        have HLEN : ∀ q, min 8192 m = q → Hid (Calls Try.prog 36 #[.pointer (some ⟨s, 0, none⟩)] W4 fun e w' => e = .returned (.int .i64 (q : Nat)) ∧ W4 = w') := fun q hq => Lib.hid (by
          have := len_any HP4.out.mak
          rw [List.length_take, HML.out, hq] at this
          exact this)
        have HLONG : ∀ q, decide (8192 < m) = q → Hid (Calls Try.prog 37 #[.pointer (some ⟨s, 0, none⟩)] W4 fun e w' => e = .returned (.bool q) ∧ W4 = w') := fun q hq => Lib.hid (by
          have := long_any HP4.out.mak
          rw [HML.out, hq] at this
          exact this)
        rcases (show m < 8192 ∨ m = 8192 ∨ 8192 < m by omega) with hc | hc | hc
        · have h1 := HLEN m (by omega)
          have h2 := HLONG false (by simpa using (by omega : m ≤ 8192))
          have hlt : (m : Int) < 8192 := by omega
          clear HLEN HLONG hc
          go_wp2_with fail
          refine h1.out.mono ?_
          rintro e W' ⟨rfl, rfl⟩
          go_wp2_with fail
          refine h2.out.mono ?_
          rintro e W' ⟨rfl, rfl⟩
          go_wp2_with fail
          go_roundw
          case rel => exact ⟨k + 1, L ++ bs, by omega, by go_num, by rw [HML.out]; exact hmk, HP4.out⟩
          case measure => simp [intOf]; omega
        · have h1 := HLEN 8192 (by omega)
          have h2 := HLONG false (by simpa using (by omega : m ≤ 8192))
          clear HLEN HLONG
          subst hc
          go_wp2_with fail
          refine h1.out.mono ?_
          rintro e W' ⟨rfl, rfl⟩
          go_wp2_with fail
          refine h2.out.mono ?_
          rintro e W' ⟨rfl, rfl⟩
          go_wp2_with fail
          go_roundw
          case rel => exact ⟨k + 1, L ++ bs, by omega, by go_num, by rw [HML.out]; exact hmk, HP4.out⟩
          case measure => simp [intOf]; omega
        · have h1 := HLEN 8192 (by omega)
          have h2 := HLONG true (by simpa using hc)
          have hlt : (8192 : Int) < (m : Int) := by omega
          clear HLEN HLONG hc
          go_wp2_with fail
          refine h1.out.mono ?_
          rintro e W' ⟨rfl, rfl⟩
          go_wp2_with fail
          refine h2.out.mono ?_
          rintro e W' ⟨rfl, rfl⟩
          go_wp2_with fail
          go_roundw
          case rel => exact ⟨k + 1, L ++ bs, by omega, by go_num, by rw [HML.out]; exact hmk, HP4.out⟩
          case measure => simp [intOf]; omega
      · by_cases k2 : kd = 2
        · subst k2
          cases hlg : decide (8192 < L.length)
          · have hl8 : l ≤ 8192 := by rw [HL.out]; simpa using hlg
            have hm1 := HP1.out.mak
            rw [hlg, List.take_of_length_le (by rw [← HL.out]; exact hl8)] at hm1
            have HM1 := Lib.hid hm1
            have hl8' : (l : Int) ≤ 8192 := by omega
            clear hlg hm1 k1
            go_wp2_with fail
            refine (take_end cd op _ HM1.out).mono ?_
            rintro e W2 ⟨hp, hm2, ht2⟩
            rw [if_neg (by simp)] at hp
            obtain ⟨p, rfl, hp⟩ := hp
            have hbk2 := (ht2.block bx (lt_of_block HBK.out) (fun e => by rcases e with e | e; have := HSB.out; omega; have := lt_of_block HBK.out; omega)).trans HBK.out
            have HR2 := Lib.hid (own_mine HP1.out.row ht2)
            have HO2 := Lib.hid (mine_base HP1.out.old HP1.out.lo ht2)
            have HM2 := Lib.hid hm2
            have HPP := Lib.hid hp.row
            obtain ⟨c0, c1, c2, c3⟩ := boxed4 hbk2
            obtain ⟨pa, pc, rfl⟩ := hp.slice
            rw [← HL.out] at HPP ⊢
            clear hp hm2 ht2 hbk2 b0 b1 b2 b3
            go_wp2_with fail
            refine (same_t _ _ L W2 HPP.out HR2.out.row (by rw [← HL.out]; unfold maxLen; omega)).mono ?_
            rintro e W3 ⟨rfl, nn, hW3⟩
            have hpl5 : PL w s [] (.slice (some ⟨W3.heap.size, 0, none⟩) 0 0) (W3.alloc (.cells #[] 5)) := by
              rw [hW3]
              have hm3 := (HM2.out.drewN nn).below (below_alloc (W2.drewN nn) (.cells #[] 5))
              have hs3 : s + 1 ≤ (W2.drewN nn).heap.size := HM2.out.lt
              exact ⟨hm3, own0 hs3, (below_drewN HO2.out nn).alloc HO2.out.size _, HP1.out.lo⟩
            obtain ⟨W5, hW5⟩ : ∃ W5, W5 = W3.alloc (.cells #[] 5) := ⟨_, rfl⟩
            rw [← hW5] at hpl5
            have HW5 := Lib.hid hW5.symm
            have HP5 := Lib.hid hpl5
            clear hpl5 hW5 hW3 c0 c1 c2 c3
            go_upto_region 23 with fail
            rw [HW5.out]
            go_wp2_with fail
            refine (show Calls Try.prog 36 #[.pointer (some ⟨s, 0, none⟩)] W5 fun e w' => e = .returned (.int .i64 0) ∧ W5 = w' from len_any HP5.out.mak).mono ?_
            rintro e W' ⟨rfl, rfl⟩
            go_wp2_with fail
            refine (show Calls Try.prog 37 #[.pointer (some ⟨s, 0, none⟩)] W5 fun e w' => e = .returned (.bool false) ∧ W5 = w' from long_any HP5.out.mak).mono ?_
            rintro e W' ⟨rfl, rfl⟩
            go_wp2_with fail
            go_roundw
            case rel => exact ⟨k + 1, [], by omega, by go_num, by simp, HP5.out⟩
            case measure => simp [intOf]; omega
          · have hl8 : 8192 < l := by rw [HL.out]; simpa using hlg
            have hm1 := HP1.out.mak
            rw [hlg] at hm1
            have HM1 := Lib.hid hm1
            have hl8' : (8192 : Int) < (l : Int) := by omega
            clear hlg hm1 k1
            go_wp2_with fail
            refine (take_end cd op _ HM1.out).mono ?_
            rintro e W2 ⟨hp, hm2, ht2⟩
            rw [if_pos rfl] at hp
            subst hp
            have hbk2 := (ht2.block bx (lt_of_block HBK.out) (fun e => by rcases e with e | e; have := HSB.out; omega; have := lt_of_block HBK.out; omega)).trans HBK.out
            obtain ⟨c0, c1, c2, c3⟩ := boxed4 hbk2
            have hold2 := mine_base HP1.out.old HP1.out.lo ht2
            have hpl5 : PL w s [] (.slice (some ⟨W2.heap.size, 0, none⟩) 0 0) (W2.alloc (.cells #[] 5)) :=
              ⟨hm2.below (below_alloc W2 (.cells #[] 5)), own0 hm2.lt, hold2.alloc hold2.size _, HP1.out.lo⟩
            obtain ⟨W5, hW5⟩ : ∃ W5, W5 = W2.alloc (.cells #[] 5) := ⟨_, rfl⟩
            rw [← hW5] at hpl5
            have HW5 := Lib.hid hW5.symm
            have HP5 := Lib.hid hpl5
            clear hm2 ht2 hbk2 hold2 hpl5 hW5 b0 b1 b2 b3
            go_upto_region 23 with fail
            rw [HW5.out]
            go_wp2_with fail
            refine (show Calls Try.prog 36 #[.pointer (some ⟨s, 0, none⟩)] W5 fun e w' => e = .returned (.int .i64 0) ∧ W5 = w' from len_any HP5.out.mak).mono ?_
            rintro e W' ⟨rfl, rfl⟩
            go_wp2_with fail
            refine (show Calls Try.prog 37 #[.pointer (some ⟨s, 0, none⟩)] W5 fun e w' => e = .returned (.bool false) ∧ W5 = w' from long_any HP5.out.mak).mono ?_
            rintro e W' ⟨rfl, rfl⟩
            go_wp2_with fail
            go_roundw
            case rel => exact ⟨k + 1, [], by omega, by go_num, by simp, HP5.out⟩
            case measure => simp [intOf]; omega
        · by_cases k100 : 100 < kd
          · have HDROP : ∀ q, min 8192 l = q → Hid (Calls Try.prog 33 #[.pointer (some ⟨s, 0, none⟩)] W1 fun e w' => e = .returned (.int .i64 (q : Nat)) ∧ MakAt w' s [] false ∧ Turn (At s) W1 w') := fun q hq => Lib.hid (by
              have := drop_any HP1.out.mak
              rw [List.length_take, ← HL.out, hq] at this
              exact this)
            have t1 : (kd == 1) = false := by simp; omega
            have t2 : (kd == 2) = false := by simp; omega
            rcases (show l < 8192 ∨ l = 8192 ∨ 8192 < l by omega) with hc | hc | hc
            · have hlt : (l : Int) < 8192 := by omega
              have h1 := HDROP l (by omega)
              clear hc
              clear HDROP
              go_wp2_with fail
              refine h1.out.mono ?_
              rintro e W2 ⟨rfl, hm2, ht2⟩
              have ht2' := at_mine ht2
              have hbk2 := (ht2'.block bx (lt_of_block HBK.out) (fun e => by rcases e with e | e; have := HSB.out; omega; have := lt_of_block HBK.out; omega)).trans HBK.out
              have hold2 := mine_base HP1.out.old HP1.out.lo ht2'
              have hpl3 : PL w s [] (.slice (some ⟨W2.heap.size, 0, none⟩) 0 0) (W2.alloc (.cells #[] 5)) :=
                ⟨hm2.below (below_alloc W2 (.cells #[] 5)), own0 hm2.lt, hold2.alloc hold2.size _, HP1.out.lo⟩
              have hbk3 := (Below.heap_alloc W2 (.cells #[] 5) bx (lt_of_block hbk2)).trans hbk2
              obtain ⟨W3, hW3⟩ : ∃ W3, W3 = W2.alloc (.cells #[] 5) := ⟨_, rfl⟩
              obtain ⟨zs, hzs⟩ : ∃ zs, zs = W2.heap.size := ⟨_, rfl⟩
              rw [← hW3, ← hzs] at hpl3
              rw [← hW3] at hbk3
              have HW3 := Lib.hid hW3.symm
              have HZS := Lib.hid hzs.symm
              have HP3 := Lib.hid hpl3
              have HBK3 := Lib.hid hbk3
              obtain ⟨c0, c1, c2, c3⟩ := boxed4 hbk3
              clear hm2 ht2 ht2' hbk2 hold2 hpl3 hbk3 hW3 hzs b0 b1 b2 b3
              go_upto_region 16 with fail
              rw [HW3.out, HZS.out]
              go_wp2_with fail
              refine (take_other kd cd op _ HP3.out.mak k1 k2).mono ?_
              rintro e W4 ⟨rfl, hm4, ht4⟩
              obtain ⟨e0, e1, e2, e3⟩ := boxed4 ((ht4.block bx (lt_of_block HBK3.out) (fun e => by rcases e with e | e; have := HSB.out; omega; have := lt_of_block HBK3.out; omega)).trans HBK3.out)
              have HP4 := Lib.hid (HP3.out.mine ht4 hm4 (own_mine HP3.out.row ht4))
              clear hm4 ht4 c0 c1 c2 c3
              go_wp2_with fail
              refine (show Calls Try.prog 36 #[.pointer (some ⟨s, 0, none⟩)] W4 fun e w' => e = .returned (.int .i64 0) ∧ W4 = w' from len_any HP4.out.mak).mono ?_
              rintro e W' ⟨rfl, rfl⟩
              go_wp2_with fail
              refine (show Calls Try.prog 37 #[.pointer (some ⟨s, 0, none⟩)] W4 fun e w' => e = .returned (.bool false) ∧ W4 = w' from long_any HP4.out.mak).mono ?_
              rintro e W' ⟨rfl, rfl⟩
              go_wp2_with fail
              go_roundw
              case rel => exact ⟨k + 1, [], by omega, by go_num, by simp, HP4.out⟩
              case measure => simp [intOf]; omega
            · skip
              have h1 := HDROP 8192 (by omega)
              clear HDROP
              subst hc
              go_wp2_with fail
              refine h1.out.mono ?_
              rintro e W2 ⟨rfl, hm2, ht2⟩
              have ht2' := at_mine ht2
              have hbk2 := (ht2'.block bx (lt_of_block HBK.out) (fun e => by rcases e with e | e; have := HSB.out; omega; have := lt_of_block HBK.out; omega)).trans HBK.out
              have hold2 := mine_base HP1.out.old HP1.out.lo ht2'
              have hpl3 : PL w s [] (.slice (some ⟨W2.heap.size, 0, none⟩) 0 0) (W2.alloc (.cells #[] 5)) :=
                ⟨hm2.below (below_alloc W2 (.cells #[] 5)), own0 hm2.lt, hold2.alloc hold2.size _, HP1.out.lo⟩
              have hbk3 := (Below.heap_alloc W2 (.cells #[] 5) bx (lt_of_block hbk2)).trans hbk2
              obtain ⟨W3, hW3⟩ : ∃ W3, W3 = W2.alloc (.cells #[] 5) := ⟨_, rfl⟩
              obtain ⟨zs, hzs⟩ : ∃ zs, zs = W2.heap.size := ⟨_, rfl⟩
              rw [← hW3, ← hzs] at hpl3
              rw [← hW3] at hbk3
              have HW3 := Lib.hid hW3.symm
              have HZS := Lib.hid hzs.symm
              have HP3 := Lib.hid hpl3
              have HBK3 := Lib.hid hbk3
              obtain ⟨c0, c1, c2, c3⟩ := boxed4 hbk3
              clear hm2 ht2 ht2' hbk2 hold2 hpl3 hbk3 hW3 hzs b0 b1 b2 b3
              go_upto_region 16 with fail
              rw [HW3.out, HZS.out]
              go_wp2_with fail
              refine (take_other kd cd op _ HP3.out.mak k1 k2).mono ?_
              rintro e W4 ⟨rfl, hm4, ht4⟩
              obtain ⟨e0, e1, e2, e3⟩ := boxed4 ((ht4.block bx (lt_of_block HBK3.out) (fun e => by rcases e with e | e; have := HSB.out; omega; have := lt_of_block HBK3.out; omega)).trans HBK3.out)
              have HP4 := Lib.hid (HP3.out.mine ht4 hm4 (own_mine HP3.out.row ht4))
              clear hm4 ht4 c0 c1 c2 c3
              go_wp2_with fail
              refine (show Calls Try.prog 36 #[.pointer (some ⟨s, 0, none⟩)] W4 fun e w' => e = .returned (.int .i64 0) ∧ W4 = w' from len_any HP4.out.mak).mono ?_
              rintro e W' ⟨rfl, rfl⟩
              go_wp2_with fail
              refine (show Calls Try.prog 37 #[.pointer (some ⟨s, 0, none⟩)] W4 fun e w' => e = .returned (.bool false) ∧ W4 = w' from long_any HP4.out.mak).mono ?_
              rintro e W' ⟨rfl, rfl⟩
              go_wp2_with fail
              go_roundw
              case rel => exact ⟨k + 1, [], by omega, by go_num, by simp, HP4.out⟩
              case measure => simp [intOf]; omega
            · have hlt : (8192 : Int) < (l : Int) := by omega
              have h1 := HDROP 8192 (by omega)
              clear hc
              clear HDROP
              go_wp2_with fail
              refine h1.out.mono ?_
              rintro e W2 ⟨rfl, hm2, ht2⟩
              have ht2' := at_mine ht2
              have hbk2 := (ht2'.block bx (lt_of_block HBK.out) (fun e => by rcases e with e | e; have := HSB.out; omega; have := lt_of_block HBK.out; omega)).trans HBK.out
              have hold2 := mine_base HP1.out.old HP1.out.lo ht2'
              have hpl3 : PL w s [] (.slice (some ⟨W2.heap.size, 0, none⟩) 0 0) (W2.alloc (.cells #[] 5)) :=
                ⟨hm2.below (below_alloc W2 (.cells #[] 5)), own0 hm2.lt, hold2.alloc hold2.size _, HP1.out.lo⟩
              have hbk3 := (Below.heap_alloc W2 (.cells #[] 5) bx (lt_of_block hbk2)).trans hbk2
              obtain ⟨W3, hW3⟩ : ∃ W3, W3 = W2.alloc (.cells #[] 5) := ⟨_, rfl⟩
              obtain ⟨zs, hzs⟩ : ∃ zs, zs = W2.heap.size := ⟨_, rfl⟩
              rw [← hW3, ← hzs] at hpl3
              rw [← hW3] at hbk3
              have HW3 := Lib.hid hW3.symm
              have HZS := Lib.hid hzs.symm
              have HP3 := Lib.hid hpl3
              have HBK3 := Lib.hid hbk3
              obtain ⟨c0, c1, c2, c3⟩ := boxed4 hbk3
              clear hm2 ht2 ht2' hbk2 hold2 hpl3 hbk3 hW3 hzs b0 b1 b2 b3
              go_upto_region 16 with fail
              rw [HW3.out, HZS.out]
              go_wp2_with fail
              refine (take_other kd cd op _ HP3.out.mak k1 k2).mono ?_
              rintro e W4 ⟨rfl, hm4, ht4⟩
              obtain ⟨e0, e1, e2, e3⟩ := boxed4 ((ht4.block bx (lt_of_block HBK3.out) (fun e => by rcases e with e | e; have := HSB.out; omega; have := lt_of_block HBK3.out; omega)).trans HBK3.out)
              have HP4 := Lib.hid (HP3.out.mine ht4 hm4 (own_mine HP3.out.row ht4))
              clear hm4 ht4 c0 c1 c2 c3
              go_wp2_with fail
              refine (show Calls Try.prog 36 #[.pointer (some ⟨s, 0, none⟩)] W4 fun e w' => e = .returned (.int .i64 0) ∧ W4 = w' from len_any HP4.out.mak).mono ?_
              rintro e W' ⟨rfl, rfl⟩
              go_wp2_with fail
              refine (show Calls Try.prog 37 #[.pointer (some ⟨s, 0, none⟩)] W4 fun e w' => e = .returned (.bool false) ∧ W4 = w' from long_any HP4.out.mak).mono ?_
              rintro e W' ⟨rfl, rfl⟩
              go_wp2_with fail
              go_roundw
              case rel => exact ⟨k + 1, [], by omega, by go_num, by simp, HP4.out⟩
              case measure => simp [intOf]; omega
          · have t1 : (kd == 1) = false := by simpa using k1
            have t2 : (kd == 2) = false := by simpa using k2
            have hk100 : kd ≤ 100 := by omega
            clear k100
            go_wp2_with fail
            refine (take_other kd cd op _ HP1.out.mak k1 k2).mono ?_
            rintro e W4 ⟨rfl, hm4, ht4⟩
            obtain ⟨e0, e1, e2, e3⟩ := boxed4 ((ht4.block bx (lt_of_block HBK.out) (fun e => by rcases e with e | e; have := HSB.out; omega; have := lt_of_block HBK.out; omega)).trans HBK.out)
            have HP4 := Lib.hid (HP1.out.mine ht4 hm4 (own_mine HP1.out.row ht4))
            have HLS := Lib.hid HL.out.symm
            clear hm4 ht4 b0 b1 b2 b3
            have HLEN : ∀ q, min 8192 l = q → Hid (Calls Try.prog 36 #[.pointer (some ⟨s, 0, none⟩)] W4 fun e w' => e = .returned (.int .i64 (q : Nat)) ∧ W4 = w') := fun q hq => Lib.hid (by
              have := len_any HP4.out.mak
              rw [List.length_take, HLS.out, hq] at this
              exact this)
            have HLONG : ∀ q, decide (8192 < l) = q → Hid (Calls Try.prog 37 #[.pointer (some ⟨s, 0, none⟩)] W4 fun e w' => e = .returned (.bool q) ∧ W4 = w') := fun q hq => Lib.hid (by
              have := long_any HP4.out.mak
              rw [HLS.out, hq] at this
              exact this)
            rcases (show l < 8192 ∨ l = 8192 ∨ 8192 < l by omega) with hc | hc | hc
            · have h1 := HLEN l (by omega)
              have h2 := HLONG false (by simpa using (by omega : l ≤ 8192))
              have hlt : (l : Int) < 8192 := by omega
              clear HLEN HLONG hc
              go_wp2_with fail
              refine h1.out.mono ?_
              rintro e W' ⟨rfl, rfl⟩
              go_wp2_with fail
              refine h2.out.mono ?_
              rintro e W' ⟨rfl, rfl⟩
              go_wp2_with fail
              go_roundw
              case rel => exact ⟨k + 1, L, by omega, by go_num, by rw [← HL.out]; omega, HP4.out⟩
              case measure => simp [intOf]; omega
            · have h1 := HLEN 8192 (by omega)
              have h2 := HLONG false (by simpa using (by omega : l ≤ 8192))
              clear HLEN HLONG
              subst hc
              go_wp2_with fail
              refine h1.out.mono ?_
              rintro e W' ⟨rfl, rfl⟩
              go_wp2_with fail
              refine h2.out.mono ?_
              rintro e W' ⟨rfl, rfl⟩
              go_wp2_with fail
              go_roundw
              case rel => exact ⟨k + 1, L, by omega, by go_num, by rw [← HL.out]; omega, HP4.out⟩
              case measure => simp [intOf]; omega
            · have h1 := HLEN 8192 (by omega)
              have h2 := HLONG true (by simpa using hc)
              have hlt : (8192 : Int) < (l : Int) := by omega
              clear HLEN HLONG hc
              go_wp2_with fail
              refine h1.out.mono ?_
              rintro e W' ⟨rfl, rfl⟩
              go_wp2_with fail
              refine h2.out.mono ?_
              rintro e W' ⟨rfl, rfl⟩
              go_wp2_with fail
              go_roundw
              case rel => exact ⟨k + 1, L, by omega, by go_num, by rw [← HL.out]; omega, HP4.out⟩
              case measure => simp [intOf]; omega
    · obtain rfl : n = k := by omega
      have HO := Lib.hid hP.old
      clear hP
      go_wp2_with fail
      go_ret
      exact ⟨rfl, HO.out⟩
end Go.Proofs.Ytfijcdidcnfadaa.Rec
