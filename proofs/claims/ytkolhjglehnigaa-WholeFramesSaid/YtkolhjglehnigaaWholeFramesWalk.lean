/-
  The walk of WholeFrames.
-/
import Derived.Test.YtkolhjglehnigaaFrames
import Derived.Test.YtkolhjglehnigaaFedA
import Derived.Test.YtkolhjglehnigaaIacC
namespace Go.Proofs.Ytkolhjglehnigaa.Rec
open Go.RowKit Base Iac Head
set_option linter.unusedVariables false

theorem byte_fin {p : Int → Prop} (h : ∀ x : Fin 256, p (x.val : Int)) (b : Int) (h0 : 0 ≤ b) (h1 : b ≤ 255) : p b := by
  have := h ⟨b.toNat, by omega⟩
  simpa [Int.toNat_of_nonneg h0] using this
theorem and3u (b : Int) (h0 : 0 ≤ b) (h1 : b ≤ 255) : bits .and .u8 b 3 = b % 4 := byte_fin (p := fun b => bits .and .u8 b 3 = b % 4) (by decide +kernel) b h0 h1
theorem wrap_code (b : Int) (h0 : 0 ≤ b) (h1 : b ≤ 255) : IntKind.u8.wrap (251 + b % 4) = 251 + b % 4 := byte_fin (p := fun b => IntKind.u8.wrap (251 + b % 4) = 251 + b % 4) (by decide +kernel) b h0 h1
theorem wrap_rem (b : Int) (h0 : 0 ≤ b) (h1 : b ≤ 255) : IntKind.u8.wrap (b.tmod 9) = b % 9 := byte_fin (p := fun b => IntKind.u8.wrap (b.tmod 9) = b % 9) (by decide +kernel) b h0 h1
theorem tmod9 (b : Int) (h0 : 0 ≤ b) : b.tmod 9 = b % 9 := Int.tmod_eq_emod_of_nonneg h0
theorem own_free {s : Nat} {w : World} {v : Value} {L : List Int} (h : OwnBytes s w v L) : ∀ n c, v = .slice Option.none n c → c = 0 := cut_nil h.cut
theorem hd_rest {p : Pt} (h : p.h.Ok) : p.hd.Ok := by
  obtain ⟨t0, t1, q0, q1, r0, r1, s0, s1⟩ := h
  refine ⟨?_, ?_, q0, q1, r0, r1, s0, s1⟩
  · show 0 ≤ p.h.ty % 9; omega
  · show p.h.ty % 9 ≤ 255; omega
theorem hd_type (p : Pt) : p.hd.ty ≤ 8 := by show p.h.ty % 9 ≤ 8; omega
theorem boxed7 {W : World} {g : Nat} {a b c d e f x : Value} {t : TypeId} (h : W.heap[g]? = some (.cells #[a, b, c, d, e, f, x] t (0, 0))) :
    W.cell? ⟨g, 0, none⟩ = some a ∧ W.cell? ⟨g, 1, none⟩ = some b ∧ W.cell? ⟨g, 2, none⟩ = some c ∧ W.cell? ⟨g, 3, none⟩ = some d ∧ W.cell? ⟨g, 4, none⟩ = some e ∧ W.cell? ⟨g, 5, none⟩ = some f ∧ W.cell? ⟨g, 6, none⟩ = some x ∧ ∀ o, W.frozen? ⟨g, o, none⟩ = false := by
  simp [World.cell?, World.frozen?, h]
/-- What the rounds of the events leave. -/
structure FR (w : World) (d s : Nat) (u : Value) (P : List EvP) (D : Dec) (B : List Int) (W : World) : Prop where
  mak : MakAt W (d + 2) B false
  dec : DecAt W (d + 1) D
  evs : PartsAt s W u P
  old : Below w.heap.size w W
  lo : w.heap.size ≤ d + 1
  hi : d + 2 < s
  sz : s ≤ W.heap.size
section
variable {w W W' : World} {d s : Nat} {u : Value} {P : List EvP} {D : Dec} {B B' : List Int}
theorem FR.below (h : FR w d s u P D B W) (t : Below W.heap.size W W') : FR w d s u P D B W' :=
  ⟨h.mak.below t, h.dec.below t, h.evs.below t, h.old.trans (t.mono h.old.size), h.lo, h.hi, Nat.le_trans h.sz t.size⟩
theorem FR.turn (h : FR w d s u P D B W) (t : Turn (Mine W (d + 2)) W W') (hm : MakAt W' (d + 2) B' false) : FR w d s u P D B' W' := by
  have h1 := h.hi; have h2 := h.lo; have h3 := h.sz
  refine ⟨hm, h.dec.turn t (fun e => by rcases e with e | e <;> omega), h.evs.turn t (fun k hk => by rcases hk with e | e <;> omega), h.old.trans (t.below h.old.size fun k hk => by have := h.old.size; rcases hk with e | e <;> omega), h.lo, h.hi, Nat.le_trans h.sz t.size⟩
end
/-- What a round of the events finds. -/
def EvRel (w : World) (d s n : Nat) (u : Value) (P : List EvP) (D : Dec) (ps : List Pt) (v i : Value) (wr : World) : Prop :=
  ∃ (k j : Nat) (B : List Int), k ≤ P.length ∧ j ≤ n ∧ i = .int .i64 k ∧ v = .int .i64 j ∧ runC (some ([], ps)) ((P.map (·.1)).take k) = some (B, ps.drop j) ∧ FR w d s u P D B wr
/-- What a round of the parts finds. -/
def PutRel (W1 : World) (s n : Nat) (ps : List Pt) (v i : Value) (wr : World) : Prop :=
  ∃ k : Nat, k ≤ n ∧ i = .int .i64 k ∧ (∀ p ∈ ps.take k, p.b.length ≤ 300) ∧ OwnBytes s wr v (outL (ps.take k)) ∧ Below s W1 wr ∧ s < wr.heap.size
set_option maxRecDepth 100000 in
set_option maxHeartbeats 8000000 in
theorem wholeFrames_law {w : World} (v : Value) (ps : List Pt) (hP : PtsAt w v ps ∧ ps.length ≤ maxLen ∧ ∀ p ∈ ps, p.Ok) (z : Value) (Z : List Int) (hZ : RowOf .i64 w z Z ∧ Z.length ≤ maxLen ∧ ∀ n ∈ Z, Open.I64 n) :
    Calls Try.prog 12 #[v, z] w fun e W' => e = .returned (.bool true) ∧ Below w.heap.size w W' := by
  have hze := (zero_of_info Talk.info_ev0).1
  have hzd := (zero_of_info info_dec).1
  have hzm := (zero_of_info info_mk).1
  obtain ⟨hrp, hlp, hok⟩ := hP
  obtain ⟨hrz, hlz, _⟩ := hZ
  obtain ⟨ap, cp, rfl, hrowp⟩ := hrp
  obtain ⟨az, cz, rfl, hrowz⟩ := id hrz
  obtain ⟨n, hn⟩ : ∃ n, n = ps.length := ⟨_, rfl⟩
  obtain ⟨m, hm⟩ : ∃ m, m = Z.length := ⟨_, rfl⟩
  have HN := Lib.hid hn
  have HM := Lib.hid hm
  have HROW := Lib.hid hrowp
  have HOK := Lib.hid hok
  have HRZ := Lib.hid hrz
  unfold maxLen at hlp hlz
  rw [← hn] at hlp ⊢
  rw [← hm] at hlz HRZ ⊢
  clear hn hm hrowp hrowz hok hrz
  by_cases hbig : 20 < n
  · have hbig' : (20 : Int) < n := by omega
    clear HROW HRZ
    go_enter Try.func12, Try.ntmps12
    go_wp2_with fail
    refine (sound_line w).mono ?_
    rintro e W1 ⟨rfl, b1⟩
    go_wp2_with fail
    go_ret
    exact ⟨rfl, b1⟩
  have hsx : (n : Int) ≤ 20 := by omega
  by_cases hbm : 100 < m
  · have hbm' : (100 : Int) < m := by omega
    clear HROW HRZ
    go_enter Try.func12, Try.ntmps12
    go_wp2_with fail
    refine (sound_line w).mono ?_
    rintro e W1 ⟨rfl, b1⟩
    go_wp2_with fail
    go_ret
    exact ⟨rfl, b1⟩
  have hsm2 : (m : Int) ≤ 100 := by omega
  clear hbig hbm
  go_enter Try.func12, Try.ntmps12
  go_wp2_with fail
  refine (sound_line w).mono ?_
  rintro e W1 ⟨rfl, b1⟩
  have b2 := below_alloc W1 (.cells #[] 5)
  have o2 := own0 (s := W1.heap.size) (w := W1) (Nat.le_refl _)
  have z2 := World.size_alloc W1 (.cells #[] 5)
  obtain ⟨W2, hW2⟩ : ∃ W2, W2 = W1.alloc (.cells #[] 5) := ⟨_, rfl⟩
  obtain ⟨s0, hs0⟩ : ∃ s0, s0 = W1.heap.size := ⟨_, rfl⟩
  have hls0 : w.heap.size ≤ s0 := by rw [hs0]; exact b1.size
  rw [← hW2, ← hs0] at o2 z2 b2
  have B2 := Lib.hid b2
  have B1 := Lib.hid b1
  have O2 := Lib.hid o2
  have HW2 := Lib.hid hW2.symm
  have HS0 := Lib.hid hs0.symm
  clear b1 b2 o2 hW2 hs0
  go_upto_region 6 with fail
  rw [HW2.out, HS0.out]
  go_wp2_with fail
  go_loopw [5, 33] (fun v i wr => PutRel W1 s0 n ps v i wr) (fun _ i _ => n - (intOf i).toNat)
  case atStart => exact ⟨0, by omega, rfl, by simp, by simpa [outL] using O2.out, B2.out, by omega⟩
  case round =>
    obtain ⟨k, hk, rfl, hk5, ho, hb, hsz⟩ := hrel
    have HO := Lib.hid ho
    have HB := Lib.hid (B1.out.trans (hb.mono hls0))
    have HBB := Lib.hid hb
    have HK5 := Lib.hid hk5
    obtain ⟨va, vc, rfl⟩ := ho.slice
    obtain ⟨l, hl⟩ : ∃ l, l = (outL (ps.take k)).length := ⟨_, rfl⟩
    have hll : l ≤ 612 * 20 := by
      have h1 := outL_le (ps.take k) hk5
      rw [List.length_take] at h1
      have : 612 * min k ps.length ≤ 612 * 20 := Nat.mul_le_mul (Nat.le_refl _) (by have := HN.out; omega)
      omega
    have HL := Lib.hid hl
    rw [← hl] at HO
    rw [← hl]
    clear ho hb hk5 hl
    by_cases hkn : k < n
    · have hkl : k < ps.length := by rw [← HN.out]; exact hkn
      obtain ⟨g, off, rfl, hgl, hc⟩ := HROW.out (by intro e; rw [e] at hkl; simp at hkl)
      obtain ⟨q, hq⟩ : ∃ q, ps[k]? = some q := ⟨_, List.getElem?_eq_getElem hkl⟩
      obtain ⟨u, d0, d1, d2, d3, d4, d5, d6, hu⟩ := hc k q hq
      have hqo := HOK.out q (List.mem_of_getElem? hq)
      have d0 := (HB.out.cell (p := ⟨g, off + k * 7, none⟩) hgl).trans d0
      have d1 := (HB.out.cell (p := ⟨g, off + k * 7 + 1, none⟩) hgl).trans d1
      have d2 := (HB.out.cell (p := ⟨g, off + k * 7 + 2, none⟩) hgl).trans d2
      have d3 := (HB.out.cell (p := ⟨g, off + k * 7 + 3, none⟩) hgl).trans d3
      have d4 := (HB.out.cell (p := ⟨g, off + k * 7 + 4, none⟩) hgl).trans d4
      have d5 := (HB.out.cell (p := ⟨g, off + k * 7 + 5, none⟩) hgl).trans d5
      have d6 := (HB.out.cell (p := ⟨g, off + k * 7 + 6, none⟩) hgl).trans d6
      have HU := Lib.hid (hu.below HB.out)
      have HQO := Lib.hid hqo
      have htk : ps.take (k + 1) = ps.take k ++ [q] := by rw [List.take_add_one, hq]; rfl
      have HTK := Lib.hid htk
      have hik : (0 : Int) ≤ (k : Int) := Int.natCast_nonneg _
      have hikn : (k : Int) < (n : Int) := by omega
      obtain ⟨ua, ul, uc, rfl, hul⟩ : ∃ ua ul uc, u = .slice ua ul uc ∧ ul = q.b.length := by
        obtain ⟨⟨a', c', e', _⟩, _⟩ := hu
        exact ⟨a', _, c', e', rfl⟩
      have HUL := Lib.hid hul
      clear hc hu hq hkl htk hul hqo
      by_cases h5 : 300 < ul
      · have h5' : (300 : Int) < ul := by omega
        go_wp2_with fail
        go_ret
        exact ⟨rfl, HB.out.trans ((below_alloc wr _).mono HB.out.size)⟩
      have h5' : (ul : Int) ≤ 300 := by omega
      clear h5
      by_cases hv : q.vb = 0
      · rw [hv] at d5
        have htm : q.h.ty.tmod 9 = q.hd.ty := tmod9 _ HQO.out.h.ty0
        have HTM := Lib.hid htm
        have HHK := Lib.hid (hd_rest HQO.out.h)
        have hout : q.out = escL q.body ++ [255, 239] := by unfold Pt.out; rw [if_pos hv]
        have HOUT := Lib.hid hout
        clear htm hout hv
        go_wp2_with fail
        rw [HTM.out]
        refine (hwrite_any q.hd HHK.out _ q.b _ (HU.out.below (below_alloc wr _)).1 (cut_nil HU.out) (by have := HUL.out; omega)).mono ?_
        rintro e w4 ⟨p4, rfl, hp4, b4⟩
        have B4 : Hid (Below wr.heap.size wr w4) := Lib.hid ((below_alloc wr _).trans (b4.mono (below_alloc wr _).size))
        have HP4 : Hid (RowOf .u8 w4 p4 q.body) := Lib.hid hp4.row
        clear hp4 b4
        go_wp2_with fail
        refine (record_any _ q.body w4 HP4.out (by have := q.body_length; have := HUL.out; omega)).mono ?_
        rintro e w5 ⟨p, rfl, hp, b5⟩
        have B5 : Hid (Below wr.heap.size wr w5) := Lib.hid (B4.out.trans (b5.mono B4.out.size))
        have hs5 := B5.out.size
        have hpl := q.out_le (by have := HUL.out; omega)
        rw [HOUT.out] at hpl
        obtain ⟨lp, hlp⟩ : ∃ lp, lp = (escL q.body ++ [255, 239]).length := ⟨_, rfl⟩
        have HP := Lib.hid hp
        obtain ⟨pa, pc, rfl⟩ := hp.slice
        rw [← hlp] at HP hpl ⊢
        have HLP := Lib.hid hlp
        clear hp b5 hlp
        go_wp2_with (at_builtin; refine append_row rfl _ _ rfl (base := s0) (HO.out.below B5.out) HP.out.row (own_free HP.out) rfl rfl (by have := HL.out; have := HLP.out; omega) (by omega) (w0 := W1) (HBB.out.trans (B5.out.mono (by omega))) ?_; intro v' w6 hown hold _ hsz6)
        go_roundw
        case rel => exact ⟨k + 1, by omega, by go_num, by rw [HTK.out]; intro r hr; rcases List.mem_append.1 hr with hr | hr; exact HK5.out r hr; rw [List.mem_singleton.1 hr]; have := HUL.out; omega, by rw [HTK.out, outL_snoc, HOUT.out]; exact hown, hold, by omega⟩
        case measure => simp [intOf]; omega
      · have hvb : (q.vb == 0) = false := by simpa using hv
        have hcd : (251 + bits .and .u8 q.vb 3) % 256 = q.code := by
          rw [and3u q.vb HQO.out.vb.1 (by have := HQO.out.vb.2; omega)]
          unfold Pt.code
          omega
        have HCD := Lib.hid hcd
        have hout : q.out = [255, q.code, q.op] := by unfold Pt.out; rw [if_neg hv]
        have HOUT := Lib.hid hout
        clear hcd hout hv
        go_wp2_with fail
        rw [HCD.out]
        refine (say_own q.code q.op _).mono ?_
        rintro e w5 ⟨p, rfl, hp, b5⟩
        have B5 : Hid (Below wr.heap.size wr w5) := Lib.hid ((below_alloc wr _).trans (b5.mono (below_alloc wr _).size))
        have hs5 := B5.out.size
        have HP := Lib.hid hp
        obtain ⟨pa, pc, rfl⟩ := hp.slice
        clear hp b5
        go_wp2_with (at_builtin; refine append_row rfl _ _ rfl (base := s0) (HO.out.below B5.out) HP.out.row (own_free HP.out) rfl rfl (by have := HL.out; simp only [List.length_cons, List.length_nil]; omega) (by omega) (w0 := W1) (HBB.out.trans (B5.out.mono (by omega))) ?_; intro v' w6 hown hold _ hsz6)
        go_roundw
        case rel => exact ⟨k + 1, by omega, by go_num, by rw [HTK.out]; intro r hr; rcases List.mem_append.1 hr with hr | hr; exact HK5.out r hr; rw [List.mem_singleton.1 hr]; have := HUL.out; omega, by rw [HTK.out, outL_snoc, HOUT.out]; exact hown, hold, by omega⟩
        case measure => simp [intOf]; omega
    · obtain rfl : n = k := by omega
      have htx : ps.take n = ps := List.take_of_length_le (by have := HN.out; omega)
      have hX5 : ∀ p ∈ ps, p.b.length ≤ 300 := by have := HK5.out; rw [htx] at this; exact this
      obtain ⟨L, hLd⟩ : ∃ L, L = outL ps := ⟨_, rfl⟩
      have hL1 := HL.out
      have hO1 := HO.out
      rw [htx, ← hLd] at hL1 hO1
      have HO := Lib.hid hO1
      have HNL := Lib.hid hL1
      have HLD := Lib.hid hLd
      have HX5 := Lib.hid hX5
      clear htx hX5 hLd hL1 hO1 HL HK5 HBB
      have hnn : (l : Int) ≤ 20040 := by omega
      have hcap : l ≤ vc := by
        obtain ⟨_, a', c', e, h1, _⟩ := HO.out.cut
        injection e with _ e2 e3
        omega
      obtain ⟨d, hd⟩ : ∃ d, d + 1 = wr.heap.size := ⟨wr.heap.size - 1, by omega⟩
      have z3 := World.size_alloc wr (.cells zdec 124)
      have b3 := below_alloc wr (.cells zdec 124)
      have d3 := dec_new wr
      obtain ⟨W3, hW3⟩ : ∃ W3, W3 = wr.alloc (.cells zdec 124) := ⟨_, rfl⟩
      rw [← hW3] at z3 b3 d3
      rw [← hd] at d3
      have z4 := World.size_alloc W3 (.cells zmk 127)
      have b4 := below_alloc W3 (.cells zmk 127)
      have m4 := mak_new W3
      obtain ⟨W4, hW4⟩ : ∃ W4, W4 = W3.alloc (.cells zmk 127) := ⟨_, rfl⟩
      rw [← hW4] at z4 b4 m4
      have b34 := b3.trans (b4.mono b3.size)
      have h3d : W3.heap.size = d + 2 := by omega
      rw [h3d] at m4
      obtain ⟨s, hs⟩ : ∃ s, s = W4.heap.size := ⟨_, rfl⟩
      have HOLD4 := Lib.hid (HB.out.trans (b34.mono HB.out.size))
      have HO4 : Hid (RowIn (fun k => k < d + 1) .u8 W4 (.slice va l vc) L) := Lib.hid ((HO.out.row.lowK.mono fun k hk => by omega).below b34)
      have HD4 := Lib.hid (d3.below b4)
      have HM4 := Lib.hid m4
      have HZ4 : Hid (RowIn (fun k => k ≠ d + 1) .i64 W4 (.slice az m cz) Z) := Lib.hid ((((HRZ.out.below HB.out).lowK).mono fun k hk => by omega).below b34)
      have HS : Hid (s = d + 3) := Lib.hid (by omega)
      have HSW := Lib.hid hs
      have HDD := Lib.hid hd.symm
      have H3D := Lib.hid h3d
      have HW3 := Lib.hid hW3.symm
      have HW4 := Lib.hid hW4.symm
      clear z3 b3 d3 z4 b4 m4 b34 h3d hs hW3 hW4 hd
      go_upto_region 19 with fail
      rw [HW3.out, HW4.out, HDD.out]
      rw [show d + 1 + 1 = d + 2 from rfl]
      go_wp2_with fail
      refine (fed_any d _ l vc L _ Z W4 HD4.out HO4.out hcap HNL.out hnn HZ4.out (by rw [← HM.out]; omega)).mono ?_
      rintro e W5 ⟨u, P, D, rfl, hP5, hok5, hD5, hl5, _, ht5⟩
      rw [HLD.out] at hok5
      obtain ⟨hrun, hst⟩ := runC_parts ps hok5
      rw [← HSW.out] at hP5 ht5
      have hs5 : s ≤ W5.heap.size := by have := ht5.size; have := HSW.out; omega
      have HF5 : Hid (FR w d s u P D [] W5) := Lib.hid ⟨HM4.out.turn ht5 (fun e => by rcases e with e | e; omega; have := HS.out; omega), hD5, hP5, HOLD4.out.trans (ht5.below HOLD4.out.size fun k hk => by have := HB.out.size; have := HDD.out; have := HOLD4.out.size; have := HS.out; have := HSW.out; rcases hk with e | e; omega; omega), by have := HB.out.size; have := HDD.out; omega, by have := HS.out; omega, hs5⟩
      have HRUN := Lib.hid hrun
      have HST := Lib.hid hst
      obtain ⟨nu, hnu⟩ : ∃ nu, nu = P.length := ⟨_, rfl⟩
      have HNU := Lib.hid hnu
      have hnui : nu ≤ 50000 := by have := HNL.out; rw [hnu]; omega
      obtain ⟨ua, uc, rfl⟩ := row_form hP5.row
      rw [← hnu] at HF5 ⊢
      clear hP5 hok5 hD5 hl5 ht5 hrun hst hs5 hnu HM4 HD4 HO4 HZ4 HO hcap hnn hll HOLD4 HW3 HW4 HDD H3D HSW
      go_upto_region 20 with fail
      go_loopw [10, 72] (fun v i wr => EvRel w d s n (.slice ua nu uc) P D ps v i wr) (fun _ i _ => nu - (intOf i).toNat)
      case atStart => exact ⟨0, 0, [], by omega, by omega, rfl, rfl, rfl, HF5.out⟩
      case round =>
        obtain ⟨k, j, B, hk, hj, rfl, rfl, hrk, hF⟩ := hrel
        have HF := Lib.hid hF
        have HRK := Lib.hid hrk
        clear hF hrk
        by_cases hkn : k < nu
        · have hkl : k < P.length := by rw [← HNU.out]; exact hkn
          have hev := HF.out.evs.evsAt
          obtain ⟨ga, gc, e0, hcells⟩ := hev
          injection e0 with e1 e2 e3
          subst e1 e3
          obtain ⟨gu, off, rfl, hgl, hc⟩ := hcells (by intro e; rw [List.map_eq_nil_iff] at e; rw [e] at hkl; simp at hkl)
          obtain ⟨q, hq⟩ : ∃ q, (P.map (·.1))[k]? = some q := ⟨_, List.getElem?_eq_getElem (by simpa using hkl)⟩
          obtain ⟨x, d0, d1, d2, d3, hx⟩ := hc k q hq
          obtain ⟨B', qs', hst, hrk'⟩ := runC_next HRUN.out HRK.out q hq
          have hbd : B.length ≤ 305 := runC_bound _ _ _ _ (runC_rest HRUN.out HRK.out) (fun p hp => by
            have h1 := HX5.out p (List.mem_of_mem_drop hp)
            have h2 := p.body_length
            omega)
          have hkni : (k : Int) < (nu : Int) := by omega
          have HRK' := Lib.hid hrk'
          have hrkx := hrk'
          obtain ⟨kd, cd, op, bs⟩ := q
          simp only at d0 d1 d2 hx
          obtain ⟨xa, xl, xc, rfl, hxl⟩ : ∃ xa xl xc, x = .slice xa xl xc ∧ xl = bs.length := by
            obtain ⟨a', c', e', _⟩ := hx
            exact ⟨a', _, c', e', rfl⟩
          have HXL := Lib.hid hxl
          clear hxl
          have hbx := below_alloc wr (.cells #[.int .i64 kd, .int .u8 cd, .int .u8 op, .slice xa xl xc] 26)
          have hblk := heap_alloc_new wr (.cells #[.int .i64 kd, .int .u8 cd, .int .u8 op, .slice xa xl xc] 26)
          obtain ⟨W6, hW6⟩ : ∃ W6, W6 = wr.alloc (.cells #[.int .i64 kd, .int .u8 cd, .int .u8 op, .slice xa xl xc] 26) := ⟨_, rfl⟩
          obtain ⟨bx, hbx'⟩ : ∃ bx, bx = wr.heap.size := ⟨_, rfl⟩
          rw [← hW6] at hbx hblk
          rw [← hbx'] at hblk
          have HF6 := Lib.hid (HF.out.below hbx)
          have HX6 := Lib.hid (hx.below hbx)
          have hbne : bx ≠ d + 2 := by have := HF.out.mak.lt; omega
          have HBK6 := Lib.hid hblk
          have HW6 := Lib.hid hW6.symm
          have HBX := Lib.hid hbx'.symm
          obtain ⟨b0, b1, b2, b3⟩ := boxed4 hblk
          clear hcells hc hq hrk' hx hbx hblk hW6 hbx' hkl hgl e2
          rcases stepC_some hst with ⟨h1, rfl, rfl⟩ | ⟨h1, rfl, p, hqs, hcase⟩
          · simp only at h1
            subst h1
            have hbd' : (B ++ bs).length ≤ 305 := runC_bound _ _ _ _ (runC_rest HRUN.out HRK'.out) (fun p hp => by
              have h1 := HX5.out p (List.mem_of_mem_drop hp)
              have h2 := p.body_length
              omega)
            rw [List.length_append] at hbd'
            go_upto_region 22 with fail
            rw [HW6.out, HBX.out]
            go_wp2_with fail
            refine (take_data cd op _ bs HF6.out.mak HX6.out (by omega)).mono ?_
            rintro e W7 ⟨rfl, hm7, ht7⟩
            rw [List.take_of_length_le (by omega), decide_eq_false (by omega)] at hm7
            have HF7 := Lib.hid (HF6.out.turn ht7 hm7)
            have hblk7 := (ht7.block bx (lt_of_block HBK6.out) (fun e => by rcases e with e | e; exact hbne e; have := lt_of_block HBK6.out; omega)).trans HBK6.out
            obtain ⟨c0, c1, c2, c3⟩ := boxed4 hblk7
            clear hm7 ht7 hblk7 b0 b1 b2 b3 hbd hbd' hst
            go_wp2_with fail
            go_roundw
            case rel => exact ⟨k + 1, j, B ++ bs, by have := HNU.out; omega, by omega, by go_num, rfl, HRK'.out, HF7.out⟩
            case measure => simp [intOf]; omega
          · have hjn : j < ps.length := by
              rcases Nat.lt_or_ge j ps.length with h | h
              · exact h
              · rw [List.drop_eq_nil_of_le h] at hqs; cases hqs
            have hp : ps[j]? = some p := by
              have := List.getElem?_drop (xs := ps) (i := j) (j := 0)
              rw [hqs] at this
              simpa using this.symm
            have hqd : qs' = ps.drop (j + 1) := by
              have := List.drop_drop (l := ps) (i := 1) (j := j)
              rw [hqs] at this
              simpa using this
            obtain ⟨gp, offp, rfl, hgp, hcp⟩ := HROW.out (by intro e; rw [e] at hjn; simp at hjn)
            obtain ⟨y, p0, p1, p2, p3, p4, p5, p6, hy⟩ := hcp j p hp
            obtain ⟨ya, yl, yc, rfl, hyl⟩ : ∃ ya yl yc, y = .slice ya yl yc ∧ yl = p.b.length := by
              obtain ⟨⟨a', c', e', _⟩, _⟩ := hy
              exact ⟨a', _, c', e', rfl⟩
            have hpo := HOK.out p (List.mem_of_getElem? hp)
            have hp5 := HX5.out p (List.mem_of_getElem? hp)
            have hjni : (j : Int) < (n : Int) := by have := HN.out; omega
            have hj0 : (0 : Int) ≤ (j : Int) := Int.natCast_nonneg _
            have HPO := Lib.hid hpo
            rw [hqd] at hrkx
            have HY := Lib.hid hy
            have HYL := Lib.hid hyl
            have HRX := Lib.hid hrkx
            have HP5 := Lib.hid hp5
            clear hyl hy hpo hcp hp hqs hqd hrkx hst hp5
            go_upto_region 22 with fail
            rw [HW6.out, HBX.out]
            rcases hcase with ⟨hv, k2, hB⟩ | ⟨hv, hB, k4, hcd, hop⟩
            · simp only at k2
              subst k2
              rw [hv] at p5
              go_wp2_with fail
              refine (take_end cd op _ HF6.out.mak).mono ?_
              rintro e W7 ⟨⟨p7, rfl, hp7⟩, hm7, ht7⟩
              have HF7 := Lib.hid (HF6.out.turn ht7 hm7)
              have hblk7 := (ht7.block bx (lt_of_block HBK6.out) (fun e => by rcases e with e | e; exact hbne e; have := lt_of_block HBK6.out; omega)).trans HBK6.out
              obtain ⟨c0, c1, c2, c3⟩ := boxed4 hblk7
              have p0 := (HF7.out.old.cell (p := ⟨gp, offp + j * 7, none⟩) hgp).trans p0
              have p1 := (HF7.out.old.cell (p := ⟨gp, offp + j * 7 + 1, none⟩) hgp).trans p1
              have p2 := (HF7.out.old.cell (p := ⟨gp, offp + j * 7 + 2, none⟩) hgp).trans p2
              have p3 := (HF7.out.old.cell (p := ⟨gp, offp + j * 7 + 3, none⟩) hgp).trans p3
              have p4 := (HF7.out.old.cell (p := ⟨gp, offp + j * 7 + 4, none⟩) hgp).trans p4
              have p5 := (HF7.out.old.cell (p := ⟨gp, offp + j * 7 + 5, none⟩) hgp).trans p5
              have p6 := (HF7.out.old.cell (p := ⟨gp, offp + j * 7 + 6, none⟩) hgp).trans p6
              have hb8 := below_alloc W7 (.cells #[.int .u8 p.h.ty, .int .u8 p.h.rq, .int .u8 p.h.rs, .int .u16 p.h.seq, .slice ya yl yc, .int .u8 0, .int .u8 p.op] 118)
              have hk8 := heap_alloc_new W7 (.cells #[.int .u8 p.h.ty, .int .u8 p.h.rq, .int .u8 p.h.rs, .int .u16 p.h.seq, .slice ya yl yc, .int .u8 0, .int .u8 p.op] 118)
              obtain ⟨W8, hW8⟩ : ∃ W8, W8 = W7.alloc (.cells #[.int .u8 p.h.ty, .int .u8 p.h.rq, .int .u8 p.h.rs, .int .u16 p.h.seq, .slice ya yl yc, .int .u8 0, .int .u8 p.op] 118) := ⟨_, rfl⟩
              obtain ⟨px, hpx⟩ : ∃ px, px = W7.heap.size := ⟨_, rfl⟩
              rw [← hW8] at hb8 hk8
              rw [← hpx] at hk8
              have hblk8 := (hb8.block bx (lt_of_block hblk7)).trans hblk7
              have HF8 := Lib.hid (HF7.out.below hb8)
              have HK8 := Lib.hid hk8
              have HB8 := Lib.hid hb8
              have HPX := Lib.hid hpx.symm
              have HW8 := Lib.hid hW8.symm
              subst hB
              have HP8 := Lib.hid (hp7.cut.below hb8)
              obtain ⟨f0, f1, f2, f3, f4, f5, f6, ffz⟩ := boxed7 hk8
              have HHK := Lib.hid (hd_rest HPO.out.h)
              obtain ⟨pa, pc, rfl⟩ := hp7.slice
              have hbl := p.body_length
              have hyb : yl ≤ 300 := by have := HYL.out; have := HP5.out; omega
              have htm : p.h.ty.tmod 9 = p.hd.ty := tmod9 _ HPO.out.h.ty0
              have HTM := Lib.hid htm
              have HBL := Lib.hid hbl
              clear hm7 ht7 hblk7 b0 b1 b2 b3 hbd hv h1 hb8 hk8 hblk8 hpx hW8 hp7 htm hbl
              go_upto_region 27 with fail
              rw [HW8.out, HPX.out]
              clear c0 c1 c2 c3 p0 p1 p2 p3 p4 p5 p6
              go_wp2_with fail
              refine (show Calls Try.prog 76 #[.slice pa p.body.length pc] W8 fun e w' => ∃ r, e = .returned (.tuple #[.agg #[.int .u8 p.hd.ty, .int .u8 p.h.rq, .int .u8 p.h.rs, .int .u16 p.h.seq], r, .int .i64 0]) ∧ OwnBytes W8.heap.size w' r p.b ∧ Below W8.heap.size W8 w' from parse_at p.hd p.b _ p.body W8 rfl (head_of _ _ HHK.out) HP8.out (by have := HBL.out; have := HP5.out; omega) (hdL_bytes _ HHK.out _ fun x hx => by have := HPO.out.by' x hx; unfold Open.Byte at this; omega) (hd_type p)).mono ?_
              rintro e W9 ⟨r, rfl, hr9, hb9⟩
              obtain ⟨ra, rc, rfl⟩ := hr9.slice
              have hb10 := below_alloc W9 (.cells #[.int .u8 p.hd.ty, .int .u8 p.h.rq, .int .u8 p.h.rs, .int .u16 p.h.seq] 116)
              have hk10 := heap_alloc_new W9 (.cells #[.int .u8 p.hd.ty, .int .u8 p.h.rq, .int .u8 p.h.rs, .int .u16 p.h.seq] 116)
              obtain ⟨W10, hW10⟩ : ∃ W10, W10 = W9.alloc (.cells #[.int .u8 p.hd.ty, .int .u8 p.h.rq, .int .u8 p.h.rs, .int .u16 p.h.seq] 116) := ⟨_, rfl⟩
              obtain ⟨hx, hhx⟩ : ∃ hx, hx = W9.heap.size := ⟨_, rfl⟩
              rw [← hW10] at hb10 hk10
              rw [← hhx] at hk10
              have HF10 := Lib.hid ((HF8.out.below hb9).below hb10)
              have hpxl : px < W8.heap.size := lt_of_block HK8.out
              have hk8' := (hb10.block px (by have := hb9.size; omega)).trans ((hb9.block px hpxl).trans HK8.out)
              have hne : px ≠ hx := by have := hb9.size; omega
              have B710 : Hid (Below W7.heap.size W7 W10) := Lib.hid (HB8.out.trans ((hb9.trans (hb10.mono hb9.size)).mono HB8.out.size))
              have HRI : Hid (RowIn (fun k => k ≠ px) .u8 W10 (.slice ra p.b.length rc) p.b) := Lib.hid ((hr9.rowIn.mono fun k hk => by omega).below hb10)
              have HYI : Hid (RowIn (fun k => k ≠ px) .u8 W10 (.slice ya yl yc) p.b) := Lib.hid ((HY.out.1.lowK.mono fun k hk => by have := HF7.out.old.size; have := HPX.out; omega).below HF10.out.old)
              have HK10 := Lib.hid hk10
              have HK8 := Lib.hid hk8'
              have HW10 := Lib.hid hW10.symm
              have HHX := Lib.hid hhx.symm
              obtain ⟨f0, f1, f2, f3, f4, f5, f6, ffz⟩ := boxed7 hk8'
              have ffz0 := ffz 0
              obtain ⟨g0, g1, g2, g3⟩ := boxed4 hk10
              clear hr9 hb9 hb10 hk10 hhx hk8' hW10 ffz hpxl
              go_upto_region 32 with fail
              rw [HW10.out, HHX.out]
              go_upto_region 33 with fail
              rw [HTM.out]
              have hset := turn_set W10 px 0 (.int .u8 p.hd.ty)
              have hk11 := heap_set HK8.out 0 (.int .u8 p.hd.ty)
              obtain ⟨W11, hW11⟩ : ∃ W11, W11 = W10.setCell ⟨px, 0, none⟩ (.int .u8 p.hd.ty) := ⟨_, rfl⟩
              rw [← hW11] at hset hk11
              have hF11 : FR w d s (.slice (some ⟨gu, off, none⟩) nu uc) P D [] W11 := HF7.out.below (B710.out.trans (hset.at_below B710.out.size (by have := HPX.out; omega)))
              have HF11 := Lib.hid hF11
              have HR11 := Lib.hid (RowIn.turn HRI.out hset fun b hb => hb).row
              have HY11 := Lib.hid (RowIn.turn HYI.out hset fun b hb => hb).row
              have hk11' : W11.heap[px]? = some (.cells #[.int .u8 p.hd.ty, .int .u8 p.h.rq, .int .u8 p.h.rs, .int .u16 p.h.seq, .slice ya yl yc, .int .u8 0, .int .u8 p.op] 118 (0, 0)) := hk11
              have hk12 := (hset.block hx (lt_of_block HK10.out) (fun e => hne e.symm)).trans HK10.out
              obtain ⟨f0, f1, f2, f3, f4, f5, f6, _⟩ := boxed7 hk11'
              obtain ⟨g0, g1, g2, g3⟩ := boxed4 hk12
              have HW11 := Lib.hid hW11.symm
              clear hset hk11 hk11' hk12 hF11 hW11 ffz0
              rw [HW11.out]
              go_wp2_with fail
              refine (same_t _ _ p.b W11 HR11.out HY11.out (by unfold maxLen; have := HP5.out; omega)).mono ?_
              rintro e W12 ⟨rfl, nd, hnd⟩
              have hF12 : FR w d s (.slice (some ⟨gu, off, none⟩) nu uc) P D [] W12 := HF11.out.below (by rw [hnd]; exact below_drewN (Below.refl _ W11) _)
              have HF12 := Lib.hid hF12
              clear hnd hF12 f0 f1 f2 f3 f4 f5 f6 g0 g1 g2 g3
              go_wp2_with fail
              go_roundw
              case rel => exact ⟨k + 1, j + 1, [], by have := HNU.out; omega, by have := HN.out; omega, by go_num, by go_num, HRX.out, HF12.out⟩
              case measure => simp [intOf]; omega
            · simp only at k4 hcd hop
              subst k4 hB hop hcd
              go_wp2_with fail
              refine (take_other 4 p.code p.op _ HF6.out.mak (by omega) (by omega)).mono ?_
              rintro e W7 ⟨rfl, hm7, ht7⟩
              have HF7 := Lib.hid (HF6.out.turn ht7 hm7)
              have hblk7 := (ht7.block bx (lt_of_block HBK6.out) (fun e => by rcases e with e | e; exact hbne e; have := lt_of_block HBK6.out; omega)).trans HBK6.out
              obtain ⟨c0, c1, c2, c3⟩ := boxed4 hblk7
              have hvb : (p.vb == 0) = false := by simpa using hv
              have p0 := (HF7.out.old.cell (p := ⟨gp, offp + j * 7, none⟩) hgp).trans p0
              have p1 := (HF7.out.old.cell (p := ⟨gp, offp + j * 7 + 1, none⟩) hgp).trans p1
              have p2 := (HF7.out.old.cell (p := ⟨gp, offp + j * 7 + 2, none⟩) hgp).trans p2
              have p3 := (HF7.out.old.cell (p := ⟨gp, offp + j * 7 + 3, none⟩) hgp).trans p3
              have p4 := (HF7.out.old.cell (p := ⟨gp, offp + j * 7 + 4, none⟩) hgp).trans p4
              have p5 := (HF7.out.old.cell (p := ⟨gp, offp + j * 7 + 5, none⟩) hgp).trans p5
              have p6 := (HF7.out.old.cell (p := ⟨gp, offp + j * 7 + 6, none⟩) hgp).trans p6
              have hcd2 : (251 + bits .and .u8 p.vb 3) % 256 = p.code := by
                rw [and3u p.vb HPO.out.vb.1 (by have := HPO.out.vb.2; omega)]
                unfold Pt.code
                omega
              have hb8 := below_alloc W7 (.cells #[.int .u8 p.h.ty, .int .u8 p.h.rq, .int .u8 p.h.rs, .int .u16 p.h.seq, .slice ya yl yc, .int .u8 p.vb, .int .u8 p.op] 118)
              have hk8 := heap_alloc_new W7 (.cells #[.int .u8 p.h.ty, .int .u8 p.h.rq, .int .u8 p.h.rs, .int .u16 p.h.seq, .slice ya yl yc, .int .u8 p.vb, .int .u8 p.op] 118)
              obtain ⟨W8, hW8⟩ : ∃ W8, W8 = W7.alloc (.cells #[.int .u8 p.h.ty, .int .u8 p.h.rq, .int .u8 p.h.rs, .int .u16 p.h.seq, .slice ya yl yc, .int .u8 p.vb, .int .u8 p.op] 118) := ⟨_, rfl⟩
              obtain ⟨px, hpx⟩ : ∃ px, px = W7.heap.size := ⟨_, rfl⟩
              rw [← hW8] at hb8 hk8
              rw [← hpx] at hk8
              have hblk8 := (hb8.block bx (lt_of_block hblk7)).trans hblk7
              have HF8 := Lib.hid (HF7.out.below hb8)
              have HK8 := Lib.hid hk8
              have HB8 := Lib.hid hb8
              have HPX := Lib.hid hpx.symm
              have HW8 := Lib.hid hW8.symm
              obtain ⟨e0, e1, e2, e3⟩ := boxed4 hblk8
              obtain ⟨f0, f1, f2, f3, f4, f5, f6, _⟩ := boxed7 hk8
              clear hm7 ht7 hblk7 b0 b1 b2 b3 hbd hv h1 hb8 hk8 hblk8 hpx hW8
              go_upto_region 27 with fail
              rw [HW8.out, HPX.out]
              clear c0 c1 c2 c3 p0 p1 p2 p3 p4 p5 p6
              go_wp2_with fail
              go_roundw
              case rel => exact ⟨k + 1, j + 1, [], by have := HNU.out; omega, by have := HN.out; omega, by go_num, by go_num, HRX.out, HF8.out⟩
              case measure => simp [intOf]; omega
        · obtain rfl : k = nu := by have := HNU.out; omega
          have hfin := HRK.out
          rw [List.take_of_length_le (by simp; have := HNU.out; omega), HRUN.out] at hfin
          injection hfin with hfin
          injection hfin with hB hdr
          subst hB
          have hjn : j = n := by
            have h1 : (ps.drop j).length = 0 := by rw [← hdr]; rfl
            rw [List.length_drop] at h1
            have := HN.out
            omega
          subst hjn
          have HO5 := Lib.hid HF.out.old
          clear hdr
          go_wp2_with (first | (go_at_call 77; refine (show Calls Try.prog 77 #[.pointer (some ⟨d + 2, 0, none⟩)] wr fun e w' => e = .returned (.int .i64 0) ∧ wr = w' from len_any HF.out.mak).mono ?_; rintro e W' ⟨rfl, rfl⟩) | (go_at_call 78; refine (show Calls Try.prog 78 #[.pointer (some ⟨d + 1, 0, none⟩)] wr fun e w' => e = .returned (.bool false) ∧ wr = w' from by have := open_any HF.out.dec; rw [HST.out] at this; exact this).mono ?_; rintro e W' ⟨rfl, rfl⟩))
          go_ret
          exact ⟨rfl, HO5.out⟩
end Go.Proofs.Ytkolhjglehnigaa.Rec
