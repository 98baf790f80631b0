/-
  Contracts of Bytes of package code, and of the reference's Bytes.
-/
import Derived.Test.YtpmcpllcfmgpgaaCodeG
namespace Go.Proofs.Ytpmcpllcfmgpgaa.Code
open Go.RowKit Go.Shelf Go.Maps
set_option linter.unusedVariables false

/-! ### A text as bytes, plainly -/
def good (page r : Int) : Bool := hasb page r && decide (64 ≤ byt page r ∧ byt page r ≤ 254)
def bts (page : Int) (s : ByteArray) : Nat → Nat → Option (List Int)
  | 0, _ => some []
  | f + 1, pos => if pos < s.size then (if good page (Utf8.decode s pos).1 = true then (bts page s f (pos + (Utf8.decode s pos).2)).map (byt page (Utf8.decode s pos).1 :: ·) else none) else some []
def bytesOf (page : Int) (s : ByteArray) : Option (List Int) := bts page s s.size 0
theorem bts_bytes (page : Int) (s : ByteArray) : ∀ f pos L, bts page s f pos = some L → ∀ x ∈ L, 64 ≤ x ∧ x ≤ 254
  | 0, _, L, h => by simp [bts] at h; subst h; simp
  | f + 1, pos, L, h => by
    unfold bts at h
    split at h
    · split at h
      · rename_i hg
        cases hb : bts page s f (pos + (Utf8.decode s pos).2) with
        | none => rw [hb] at h; simp at h
        | some M =>
          rw [hb] at h
          simp at h
          subst h
          intro x hx
          rcases List.mem_cons.1 hx with rfl | hx
          · simp only [good, Bool.and_eq_true, decide_eq_true_eq] at hg; exact hg.2
          · exact bts_bytes page s f _ M hb x hx
      · cases h
    · simp at h; subst h; simp
theorem width_pos (s : ByteArray) (pos : Nat) (h : pos < s.size) : 1 ≤ (Utf8.decode s pos).2 := by
  by_cases ha : (s[pos]'h).toNat < 128
  · rw [decode_ascii s pos h ha]; exact Nat.le_refl _
  · exact (decode_high s pos h (by omega)).2
theorem bts_end (page : Int) (s : ByteArray) (f pos : Nat) (h : ¬ pos < s.size) : bts page s f pos = some [] := by
  cases f with
  | zero => rfl
  | succ f => unfold bts; rw [if_neg h]
theorem bts_good (page : Int) (s : ByteArray) (f pos : Nat) (h : pos < s.size) (hg : good page (Utf8.decode s pos).1 = true) : bts page s (f + 1) pos = (bts page s f (pos + (Utf8.decode s pos).2)).map (byt page (Utf8.decode s pos).1 :: ·) := by
  conv => lhs; unfold bts
  rw [if_pos h, if_pos hg]
theorem bts_bad (page : Int) (s : ByteArray) (f pos : Nat) (h : pos < s.size) (hg : good page (Utf8.decode s pos).1 = false) : bts page s (f + 1) pos = none := by
  conv => lhs; unfold bts
  rw [if_pos h, if_neg (by rw [hg]; decide)]

theorem own_ne {w : World} {base : Nat} {e : TypeId} {size : Nat} {v : Value} {n : Nat} {xs : List Value} (h : w.ownsRow base e size v n xs) {j : Nat} {o : Obj} (hj : w.heap[j]? = some o) (ho : ∀ c t f, o ≠ .cells c t f) : some j ≠ v.ownBlock := by
  rcases h.2 with ⟨rfl, _⟩ | ⟨g, cap, cur, rfl, _, hg, _⟩
  · simp [Value.ownBlock]
  · intro e'
    obtain rfl : j = g := by simpa [Value.ownBlock] using e'
    rw [hg] at hj; cases hj; exact ho _ _ _ rfl
theorem grown_iterAt (w : World) (k : Nat) (s : ByteArray) (pos : Nat) : w.grownBy (w.iterAt k s pos) (some k) :=
  ⟨rfl, rfl, rfl, by rw [Lib.iterAt_size]; exact Nat.le_refl _, fun i _ hi => Lib.iterAt_other w k i s pos (fun e => hi (by rw [e]))⟩
theorem own_iterAt {w : World} {base : Nat} {e : TypeId} {size : Nat} {v : Value} {n : Nat} {xs : List Value} (h : w.ownsRow base e size v n xs) {k : Nat} {s : ByteArray} {pos : Nat} (hk : w.heap[k]? = some (.stringIter s pos)) (pos' : Nat) : (w.iterAt k s pos').ownsRow base e size v n xs :=
  h.kept (grown_iterAt w k s pos') (.inr fun e' => own_ne h hk (fun _ _ _ h => by cases h) e'.symm)
theorem grown_below {W W' : World} (h : Below W.heap.size W W') : W.grownBy W' none := ⟨h.os, h.tape, h.output, h.size, fun k hk _ => h.block k hk⟩

/-- What the loop knows between two rounds. -/
def BRel (page : Int) (s : ByteArray) (w : World) (I : Nat) (Bm : Option Nat) (T : List Int) (v : Value) (wr : World) : Prop :=
  ∃ (pos f : Nat) (L0 : List Int), wr.heap[I]? = some (.stringIter s pos) ∧ (∀ B, Bm = some B → wr.ownsMap Try.prog 21 (plainElem Try.prog 5) B 256 (mapOf T 256)) ∧
    wr.ownsRow w.heap.size 5 1 v L0.length (L0.map (Value.int .u8)) ∧ Below w.heap.size w wr ∧ (bts page s f pos).map (L0 ++ ·) = bytesOf page s ∧ s.size ≤ pos + f ∧ L0.length ≤ pos ∧ w.heap.size ≤ I ∧ (∃ g n c, v = .slice g n c)

/-- What comes back. -/
def BRes (k0 : IntKind) (page : Int) (s : ByteArray) (w : World) (e : Ending) (w' : World) : Prop :=
  ((∃ L v, bytesOf page s = some L ∧ e = .returned (.tuple #[v, .int k0 0]) ∧ w'.ownsRow w.heap.size 5 1 v L.length (L.map (Value.int .u8))) ∨ (bytesOf page s = none ∧ e = .returned (.tuple #[.slice none 0 0, .int k0 21]))) ∧ Below w.heap.size w w'

theorem infoByte2 : (Try.prog.info? 5).map (fun i => (i.zero, i.size, i.bytes)) = some (some (.int .u8 0), 1, 1) := by kernel_rfl

theorem spec_step {o : Option (List Int)} {L0 : List Int} {c : Int} : (o.map (c :: ·)).map (L0 ++ ·) = o.map ((L0 ++ [c]) ++ ·) := by cases o <;> simp
theorem iter_behind {wr w1 : World} {base I : Nat} {e : TypeId} {size : Nat} {v : Value} {n : Nat} {xs : List Value} {o : Obj} {s : ByteArray} {pos : Nat} (hit : wr.heap[I]? = some (.stringIter s pos)) (hown : wr.ownsRow base e size v n xs) (hgrow : (wr.alloc o).grownBy w1 v.ownBlock) : w1.heap[I]? = some (.stringIter s pos) := by
  have hlt : I < wr.heap.size := (Array.getElem?_eq_some_iff.1 hit).1
  rw [hgrow.block I (by rw [World.size_alloc]; omega) (own_ne hown hit (fun _ _ _ h => by cases h)), Below.heap_alloc _ _ _ hlt]; exact hit
theorem round_append {page : Int} {s : ByteArray} {w : World} {I : Nat} {Bm : Option Nat} {T : List Int} {v v' : Value} {wr w1 : World} {o : Obj} {pos f : Nat} {L0 : List Int} {x : Int}
    (hit : wr.heap[I]? = some (.stringIter s pos)) (hmap : ∀ B, Bm = some B → wr.ownsMap Try.prog 21 (plainElem (H := Unit) Try.prog 5) B 256 (mapOf T 256))
    (hown : wr.ownsRow w.heap.size 5 1 v L0.length (L0.map (Value.int .u8))) (hB : Below w.heap.size w wr) (hI : w.heap.size ≤ I)
    (hown' : w1.ownsRow w.heap.size 5 1 v' (L0.length + 1) (L0.map (Value.int .u8) ++ [.int .u8 x])) (hgrow : (wr.alloc o).grownBy w1 v.ownBlock)
    (hspec : (bts page s f pos).map ((L0 ++ [x]) ++ ·) = bytesOf page s) (hf : s.size ≤ pos + f) (hl : L0.length + 1 ≤ pos) : BRel page s w I Bm T v' w1 := by
  have hlt : I < wr.heap.size := (Array.getElem?_eq_some_iff.1 hit).1
  refine ⟨pos, f, L0 ++ [x], ?_, ?_, by simpa using hown', ?_, hspec, hf, by simpa using hl, hI, ?_⟩
  · rw [hgrow.block I (by rw [World.size_alloc]; omega) (own_ne hown hit (fun _ _ _ h => by cases h)), Below.heap_alloc _ _ _ hlt]; exact hit
  · intro B hB'
    have hm := hmap B hB'
    obtain ⟨es, clock, hb, _⟩ := id hm
    exact (hm.alloc o).kept hgrow (own_ne hown hb (fun _ _ _ h => by cases h))
  · exact (hB.alloc hB.size _).grown hgrow (by rw [World.size_alloc]; have := hB.size; omega) (fun k e => (hown.lt k e).1)
  · rcases hown'.2 with ⟨h, _⟩ | ⟨g, cap, cur, h, _⟩
    · exact ⟨_, _, _, h⟩
    · exact ⟨_, _, _, h⟩

theorem lit_u8 {a b : Int} (h : (DataW.lit (.int .u8 a) : DataW Unit) = .lit (.int .u8 b)) : a = b := by
  cases h; rfl

theorem to_pair {P : Program} {f : FuncId} {args : Array Value} {w : World} {x y : Int} {b d : Bool} {Q : World → Prop} (h : Calls P f args w fun e w' => e = .returned (.tuple #[.int .u8 x, .bool b]) ∧ Q w') (e1 : x = y) (e2 : b = d) : Calls P f args w fun e w' => e = .returned (.tuple #[.int .u8 y, .bool d]) ∧ Q w' := by
  subst e1; subst e2; exact h

set_option maxHeartbeats 4000000 in
theorem bytes_any (page : Int) (s : ByteArray) (w : World) (hs : s.size ≤ 1000000000) :
    Calls Try.prog 26 #[.int .i64 page, .string s] w (BRes .i64 page s w) := by
  obtain ⟨i0, hi, hz0, hz1, hz2⟩ := info_parts infoByte2
  obtain ⟨T, hT0⟩ : ∃ T, T = tabl page := ⟨_, rfl⟩
  have hT : Hid (∀ w, Calls Try.prog 50 #[.int .i64 page] w (MapMade w T)) := by
    intro w; rw [hT0]; exact bySign_any page w
  have HT0 := Lib.hid hT0
  clear hT0
  go_enter Try.func26, Try.ntmps26
  go_wp2_with fail
  refine (hT.out _).mono ?_
  rintro e w1 ⟨B, rfl, hmap0, hBs, hB1⟩
  have hsz1 := hB1.size
  have hst : BRel page s w w1.heap.size (some B) T (.slice none 0 0) (w1.iter s 0) := by
    refine ⟨0, s.size, [], World.iter_heap w1 s 0, ?_, World.ownsRow_nil _ _ _ _, ?_, ?_, by omega, by simp, hsz1, ⟨_, _, _, rfl⟩⟩
    · intro B' e; cases e; exact hmap0.alloc _
    · exact hB1.alloc hsz1 _
    · show (bts page s s.size 0).map ([] ++ ·) = bytesOf page s
      unfold bytesOf
      cases bts page s s.size 0 <;> simp
  clear hmap0 hB1 hBs
  go_wp2_with fail
  go_loopw [7] (BRel page s w w1.heap.size (some B) T) (fun _ wr => s.size - wr.iterPos w1.heap.size)
  case atStart => exact hst
  case round =>
    obtain ⟨pos, f, L0, hit, hmap, hown, hBw, hspec, hf, hl, hIw, ⟨vg, vn, vc, rfl⟩⟩ := hrel
    by_cases hp : pos < s.size
    · have hnx : ∀ ty, (Instr.next (.pointer (some ⟨w1.heap.size, 0, none⟩)) true ty).run Try.prog wr = _ := fun ty => Lib.run_next_any_at wr w1.heap.size s pos ty hit hp
      have hwd := width_pos s pos hp
      have hd1 := decode_le s pos
      obtain ⟨r, hr⟩ : ∃ r, r = (Utf8.decode s pos).1 := ⟨_, rfl⟩
      obtain ⟨wd, hwde⟩ : ∃ d, d = (Utf8.decode s pos).2 := ⟨_, rfl⟩
      rw [← hr, ← hwde] at hnx
      rw [← hwde] at hwd
      rw [← hr] at hd1
      have hit2 := Lib.iterAt_heap wr w1.heap.size s pos (pos + wd) hit
      have hown2 := own_iterAt hown hit (pos + wd)
      have hB2 := Lib.below_iterAt hBw hIw s (pos + wd)
      have hmap2 : ∀ B', some B = some B' → (wr.iterAt w1.heap.size s (pos + wd)).ownsMap Try.prog 21 (plainElem (H := Unit) Try.prog 5) B' 256 (mapOf T 256) := by
        intro B' e
        have hm := hmap B' e
        obtain ⟨es, clock, hb, _⟩ := id hm
        refine hm.kept (grown_iterAt wr _ s _) (fun e' => ?_)
        cases e'; rw [hit] at hb; cases hb
      obtain ⟨f', rfl⟩ : ∃ f', f = f' + 1 := ⟨f - 1, by omega⟩
      have hgood := bts_good page s f' pos hp
      have hbad := bts_bad page s f' pos hp
      rw [← hr, ← hwde] at hgood
      rw [← hr] at hbad
      have hrwf : (Lit.int .i32 (r : Int)).wf = true := WalkArith.wf_i32 (by omega)
      have hkey : Hid (keyOf Try.prog 21 (.int .i32 (r : Int)) = some (.int .i32 (r : Int))) := keyOf_int_mk Try.underlying21 hrwf
      have hbb := byt_bd page r
      obtain ⟨y, hy⟩ : ∃ y, y = byt page r := ⟨_, rfl⟩
      rw [← hy] at hbb hgood
      obtain ⟨y0, y1⟩ := hbb
      have hat : Hid ((mapOf T 256).atKey (.int .i32 (r : Int)) (.lit (.int .u8 0)) = .lit (.int .u8 y)) := by
        have hl2 := tabl_length page
        rw [HT0.out, mapOf_at _ (tabl_nodup page) r _ 256 (by omega), hy]
        unfold Hid byt
        split <;> rfl
      have hhas : Maps.has (mapOf T 256) (.int .i32 (r : Int)) = hasb page r := by
        have hl2 := tabl_length page
        rw [HT0.out, mapOf_has _ (tabl_nodup page) r 256 (by omega)]; rfl
      have HGD : Hid ((good page r = (hasb page r && decide (64 ≤ y ∧ y ≤ 254)))) := by rw [hy]; exact rfl
      have HS := Lib.hid (And.intro hspec (And.intro hgood hbad))
      have HM := Lib.hid hmap2
      have HR := Lib.hid (And.intro hr (And.intro hwde hy))
      have HIT := Lib.hid hit
      have HIT2 := Lib.hid hit2
      clear hspec hgood hbad hmap hmap2 hr hwde hy hrwf hit hit2 hown hd1
      by_cases hh : hasb page r = true
      · rw [hh] at hhas HGD
        have HH := Lib.hid hh
        clear hh
        by_cases hg : 64 ≤ y ∧ y ≤ 254
        · have HG := Lib.hid hg
          clear hg
          have HGOOD : Hid (good page r = true) := by rw [HGD.out, decide_eq_true HG.out]; exact rfl
          go_wp2_with (first | (at_lookup; refine wpList_lookup_own_ok_int _ rfl _ _ 72 rfl 21 5 .u8 (int_keyed Try.underlying21) Try.underlying72 Try.underlying5 (zero_u8 _) B 256 _ rfl (HM.out B rfl) _ _ rfl hkey.out ?_; intro c hat2 _hwc; obtain rfl : c = y := lit_u8 (hat2.symm.trans hat.out); clear hat2 _hwc))
          refine (to_bool (graphic_any c _ y0 y1) (decide_eq_true HG.out)).mono ?_
          rintro e w' ⟨rfl, rfl⟩
          have hszr : w.heap.size ≤ (wr.iterAt w1.heap.size s (pos + wd)).heap.size := hB2.size
          go_wp2_with (at_builtin; refine wpList_append_own _ rfl _ _ 32 rfl w.heap.size 5 i0 (.int .u8 0) 1 1 Try.underlying32 hi hz0 hz1 hz2 rfl (by decide) _ _ _ rfl (hown2.alloc _) ⟨(wr.iterAt w1.heap.size s (pos + wd)).heap.size, 0, none⟩ 1 1 [.int .u8 c] rfl rfl (cell_one_new _ _ _) (by simp [Value.oneCell']) (by unfold maxLen; omega) (by omega) (by simp; omega) ?_; intro v' w2 hown' hgrow _)
          have hfin : BRel page s w w1.heap.size (some B) T v' w2 :=
            round_append (f := f') HIT2.out HM.out hown2 hB2 hIw hown' hgrow (by rw [← HS.out.1, HS.out.2.1 HGOOD.out]; exact spec_step.symm) (by omega) (by omega)
          have hit3 := Lib.hid (iter_behind HIT2.out hown2 hgrow)
          clear hown' hgrow
          go_roundw
          case rel => exact hfin
          case measure =>
            rw [iterPos_of hit3.out, iterPos_of HIT.out]; omega
        · have HG := Lib.hid hg
          clear hg
          have HGOOD : Hid (good page r = false) := by rw [HGD.out, decide_eq_false HG.out]; exact rfl
          go_wp2_with (first | (at_lookup; refine wpList_lookup_own_ok_int _ rfl _ _ 72 rfl 21 5 .u8 (int_keyed Try.underlying21) Try.underlying72 Try.underlying5 (zero_u8 _) B 256 _ rfl (HM.out B rfl) _ _ rfl hkey.out ?_; intro c hat2 _hwc; obtain rfl : c = y := lit_u8 (hat2.symm.trans hat.out); clear hat2 _hwc))
          refine (to_bool (graphic_any c _ y0 y1) (decide_eq_false HG.out)).mono ?_
          rintro e w' ⟨rfl, rfl⟩
          go_wp2_with fail
          go_ret2
          exact ⟨.inr ⟨by rw [← HS.out.1, HS.out.2.2 HGOOD.out]; rfl, rfl⟩, hB2⟩
      · have hh' : hasb page r = false := by simpa using hh
        rw [hh'] at hhas HGD
        have HGOOD : Hid (good page r = false) := by rw [HGD.out]; exact rfl
        clear hh hh'
        go_wp2_with (first | (at_lookup; refine wpList_lookup_own_ok_int _ rfl _ _ 72 rfl 21 5 .u8 (int_keyed Try.underlying21) Try.underlying72 Try.underlying5 (zero_u8 _) B 256 _ rfl (HM.out B rfl) _ _ rfl hkey.out ?_; intro c hat2 _hwc; obtain rfl : c = y := lit_u8 (hat2.symm.trans hat.out); clear hat2 _hwc))
        go_ret2
        exact ⟨.inr ⟨by rw [← HS.out.1, HS.out.2.2 HGOOD.out]; rfl, rfl⟩, hB2⟩
    · have hnx : ∀ ty, (Instr.next (.pointer (some ⟨w1.heap.size, 0, none⟩)) true ty).run Try.prog wr = _ := fun ty => Lib.run_next_end_at wr w1.heap.size s pos ty hit hp
      have hend := bts_end page s f pos hp
      have HS : Hid (bytesOf page s = some L0) := by
        rw [hend] at hspec
        rw [← hspec]
        simp [Hid]
      have HO := Lib.hid hown
      clear hit hmap hspec hend hown
      go_wp2_with fail
      go_ret2
      exact ⟨.inl ⟨L0, _, HS.out, rfl, HO.out⟩, hBw⟩

set_option maxHeartbeats 4000000 in
theorem rbytes_any (page : Int) (s : ByteArray) (w : World) (hs : s.size ≤ 1000000000) :
    Calls Try.prog 27 #[.int .i64 page, .string s] w (BRes .i64 page s w) := by
  obtain ⟨i0, hi, hz0, hz1, hz2⟩ := info_parts infoByte2
  have hst : BRel page s w (w.heap.size + 1) none [] (.slice (some ⟨w.heap.size, 0, none⟩) 0 0) ((w.alloc (.cells #[] 5)).iter s 0) := by
    have hit0 := World.iter_heap (w.alloc (.cells #[] 5)) s 0
    rw [World.size_alloc] at hit0
    refine ⟨0, s.size, [], hit0, by simp, ?_, ?_, ?_, by omega, by simp, by omega, ⟨_, _, _, rfl⟩⟩
    · exact (World.ownsRow_made w #[] 0 (Nat.le_refl _) (by simp [maxLen]) (by simp)).alloc _
    · exact ((Below.refl _ w).alloc (Nat.le_refl _) _).alloc (by simp) _
    · show (bts page s s.size 0).map ([] ++ ·) = bytesOf page s
      unfold bytesOf
      cases bts page s s.size 0 <;> simp
  go_enter Try.func27, Try.ntmps27
  go_wp2_with fail
  go_loopw [6] (BRel page s w (w.heap.size + 1) none []) (fun _ wr => s.size - wr.iterPos (w.heap.size + 1))
  case atStart => exact hst
  case round =>
    obtain ⟨pos, f, L0, hit, hmap, hown, hBw, hspec, hf, hl, hIw, ⟨vg, vn, vc, rfl⟩⟩ := hrel
    clear hmap
    by_cases hp : pos < s.size
    · have hnx : ∀ ty, (Instr.next (.pointer (some ⟨w.heap.size + 1, 0, none⟩)) true ty).run Try.prog wr = _ := fun ty => Lib.run_next_any_at wr (w.heap.size + 1) s pos ty hit hp
      have hwd := width_pos s pos hp
      obtain ⟨r, hr⟩ : ∃ r, r = (Utf8.decode s pos).1 := ⟨_, rfl⟩
      obtain ⟨wd, hwde⟩ : ∃ d, d = (Utf8.decode s pos).2 := ⟨_, rfl⟩
      rw [← hr, ← hwde] at hnx
      rw [← hwde] at hwd
      have hit2 := Lib.iterAt_heap wr (w.heap.size + 1) s pos (pos + wd) hit
      have hown2 := own_iterAt hown hit (pos + wd)
      have hB2 := Lib.below_iterAt hBw hIw s (pos + wd)
      obtain ⟨f', rfl⟩ : ∃ f', f = f' + 1 := ⟨f - 1, by omega⟩
      have hgood := bts_good page s f' pos hp
      have hbad := bts_bad page s f' pos hp
      rw [← hr, ← hwde] at hgood
      rw [← hr] at hbad
      have hbb := byt_bd page r
      obtain ⟨c, hy⟩ : ∃ c, c = byt page r := ⟨_, rfl⟩
      rw [← hy] at hbb hgood
      obtain ⟨y0, y1⟩ := hbb
      have HGD : Hid ((good page r = (hasb page r && decide (64 ≤ c ∧ c ≤ 254)))) := by rw [hy]; exact rfl
      have HS := Lib.hid (And.intro hspec (And.intro hgood hbad))
      have HY := Lib.hid hy
      have HIT := Lib.hid hit
      have HIT2 := Lib.hid hit2
      have HO2 := Lib.hid hown2
      clear hspec hgood hbad hr hwde hy hit hit2 hown hown2
      by_cases hh : hasb page r = true
      · rw [hh] at HGD
        have HH := Lib.hid hh
        clear hh
        by_cases hg : 64 ≤ c ∧ c ≤ 254
        · have HG := Lib.hid hg
          clear hg
          have HGOOD : Hid (good page r = true) := by rw [HGD.out, decide_eq_true HG.out]; exact rfl
          go_wp2_with fail
          refine (to_pair (rbyte_any page r _) HY.out.symm HH.out).mono ?_
          rintro e w1 ⟨rfl, hb1⟩
          have hown3 := HO2.out.kept (grown_below hb1) (by cases (Value.slice vg vn vc).ownBlock <;> simp)
          have hB3 := hB2.trans (hb1.mono hB2.size)
          have HIT3 : Hid (w1.heap[w.heap.size + 1]? = some (.stringIter s (pos + wd))) := by
            have h := HIT2.out
            unfold Hid
            rw [hb1.block _ (Array.getElem?_eq_some_iff.1 h).1]; exact h
          have HBB := Lib.hid hb1
          clear hb1
          go_wp2_with fail
          refine (to_bool (seen_any c _ y0 y1) (decide_eq_true HG.out)).mono ?_
          rintro e w' ⟨rfl, rfl⟩
          have hszr : w.heap.size ≤ w1.heap.size := hB3.size
          go_wp2_with (at_builtin; refine wpList_append_own _ rfl _ _ 32 rfl w.heap.size 5 i0 (.int .u8 0) 1 1 Try.underlying32 hi hz0 hz1 hz2 rfl (by decide) _ _ _ rfl (hown3.alloc _) ⟨w1.heap.size, 0, none⟩ 1 1 [.int .u8 c] rfl rfl (cell_one_new _ _ _) (by simp [Value.oneCell']) (by unfold maxLen; omega) (by omega) (by simp; omega) ?_; intro v' w2 hown' hgrow _)
          have hfin : BRel page s w (w.heap.size + 1) none [] v' w2 :=
            round_append (f := f') HIT3.out (by simp) hown3 hB3 hIw hown' hgrow (by rw [← HS.out.1, HS.out.2.1 HGOOD.out]; exact spec_step.symm) (by omega) (by omega)
          have hit4 := Lib.hid (iter_behind HIT3.out hown3 hgrow)
          clear hown' hgrow
          go_roundw
          case rel => exact hfin
          case measure =>
            rw [iterPos_of hit4.out, iterPos_of HIT.out]; omega
        · have HG := Lib.hid hg
          clear hg
          have HGOOD : Hid (good page r = false) := by rw [HGD.out, decide_eq_false HG.out]; exact rfl
          go_wp2_with fail
          refine (to_pair (rbyte_any page r _) HY.out.symm HH.out).mono ?_
          rintro e w1 ⟨rfl, hb1⟩
          have hB3 := hB2.trans (hb1.mono hB2.size)
          clear hb1
          go_wp2_with fail
          refine (to_bool (seen_any c _ y0 y1) (decide_eq_false HG.out)).mono ?_
          rintro e w' ⟨rfl, rfl⟩
          go_wp2_with fail
          go_ret2
          exact ⟨.inr ⟨by rw [← HS.out.1, HS.out.2.2 HGOOD.out]; rfl, rfl⟩, hB3⟩
      · have hh' : hasb page r = false := by simpa using hh
        rw [hh'] at HGD
        have HGOOD : Hid (good page r = false) := by rw [HGD.out]; exact rfl
        have HH := Lib.hid hh'
        clear hh hh'
        go_wp2_with fail
        refine (to_pair (rbyte_any page r _) HY.out.symm HH.out).mono ?_
        rintro e w1 ⟨rfl, hb1⟩
        have hB3 := hB2.trans (hb1.mono hB2.size)
        clear hb1
        go_wp2_with fail
        go_ret2
        exact ⟨.inr ⟨by rw [← HS.out.1, HS.out.2.2 HGOOD.out]; rfl, rfl⟩, hB3⟩
    · have hnx : ∀ ty, (Instr.next (.pointer (some ⟨w.heap.size + 1, 0, none⟩)) true ty).run Try.prog wr = _ := fun ty => Lib.run_next_end_at wr (w.heap.size + 1) s pos ty hit hp
      have hend := bts_end page s f pos hp
      have HS : Hid (bytesOf page s = some L0) := by
        rw [hend] at hspec
        rw [← hspec]
        simp [Hid]
      have HO := Lib.hid hown
      clear hit hspec hend hown
      go_wp2_with fail
      go_ret2
      exact ⟨.inl ⟨L0, _, HS.out, rfl, HO.out⟩, hBw⟩

end Go.Proofs.Ytpmcpllcfmgpgaa.Code
