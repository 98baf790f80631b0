/-
  The contract of Join.
-/
import Derived.Test.YtimidoaafllnkaaDecF
import Derived.Deep.AppendLies
import Derived.Deep.RegionLaw
namespace Go.Proofs.Ytimidoaafllnkaa.Iac
open Go.RowKit Base
set_option linter.unusedVariables false

/-- Events with one more, data laid together. -/
def addL : List Ev → Ev → List Ev
  | [], e => [e]
  | [f], e => if f.kind = 1 ∧ e.kind = 1 then [{ f with bytes := f.bytes ++ e.bytes }] else [f, e]
  | f :: g :: L, e => f :: addL (g :: L) e
theorem addL_snoc (Q : List Ev) (f e : Ev) : addL (Q ++ [f]) e = Q ++ (if f.kind = 1 ∧ e.kind = 1 then [{ f with bytes := f.bytes ++ e.bytes }] else [f, e]) := by
  induction Q with
  | nil => rfl
  | cons a Q ih =>
    cases Q with
    | nil => simp [addL]
    | cons b Q => simp only [List.cons_append, addL] at ih ⊢; rw [ih]
theorem addL_data (Q : List Ev) (f e : Ev) (h : f.kind = 1) (k : e.kind = 1) : addL (Q ++ [f]) e = Q ++ [{ f with bytes := f.bytes ++ e.bytes }] := by rw [addL_snoc, if_pos ⟨h, k⟩]
theorem addL_other (Q : List Ev) (f e : Ev) (h : ¬ (f.kind = 1 ∧ e.kind = 1)) : addL (Q ++ [f]) e = (Q ++ [f]) ++ [e] := by rw [addL_snoc, if_neg h]; simp
theorem addL_kind (L : List Ev) (e : Ev) (h : e.kind ≠ 1) : addL L e = L ++ [e] := by
  rcases List.eq_nil_or_concat L with rfl | ⟨Q, f, rfl⟩
  · rfl
  · rw [List.concat_eq_append, addL_other _ _ _ fun h' => h h'.2]
theorem layL_eq (L : List Ev) (x : Int) : layL L x = addL L ⟨1, 0, 0, [x]⟩ := by
  rcases List.eq_nil_or_concat L with rfl | ⟨Q, f, rfl⟩
  · rfl
  · rw [List.concat_eq_append, layL_snoc, addL_snoc]
    simp
def joinE (J : List Ev) (e : Ev) : List Ev := if e.kind = 1 ∧ e.bytes = [] then J else addL J e
def joinL (L : List Ev) : List Ev := L.foldl joinE []
theorem joinL_snoc (L : List Ev) (e : Ev) : joinL (L ++ [e]) = joinE (joinL L) e := by simp [joinL]
/-- How many bytes events have. -/
def totE (L : List Ev) : Nat := (L.map fun e => e.bytes.length).sum
theorem totE_snoc (L : List Ev) (e : Ev) : totE (L ++ [e]) = totE L + e.bytes.length := by simp [totE]
theorem addL_tot (L : List Ev) (e : Ev) : totE (addL L e) = totE L + e.bytes.length ∧ (addL L e).length ≤ L.length + 1 := by
  rcases List.eq_nil_or_concat L with rfl | ⟨Q, f, rfl⟩
  · simp [addL, totE]
  · rw [List.concat_eq_append]
    by_cases h : f.kind = 1 ∧ e.kind = 1
    · rw [addL_data _ _ _ h.1 h.2, totE_snoc, totE_snoc]
      simp; omega
    · rw [addL_other _ _ _ h, totE_snoc]
      simp
theorem joinL_tot (L : List Ev) : totE (joinL L) ≤ totE L ∧ (joinL L).length ≤ L.length := by
  have : ∀ (L J : List Ev), totE (L.foldl joinE J) ≤ totE J + totE L ∧ (L.foldl joinE J).length ≤ J.length + L.length := by
    intro L
    induction L with
    | nil => intro J; simp [totE]
    | cons e L ih =>
      intro J
      have h1 := ih (joinE J e)
      have h2 : totE (joinE J e) ≤ totE J + e.bytes.length ∧ (joinE J e).length ≤ J.length + 1 := by
        unfold joinE
        split
        · omega
        · have := addL_tot J e; omega
      have h3 : totE (e :: L) = e.bytes.length + totE L := by simp [totE]
      simp only [List.foldl_cons, List.length_cons]
      omega
  simpa [joinL, totE] using this L []
theorem tot_mem {L : List Ev} {e : Ev} (h : e ∈ L) : e.bytes.length ≤ totE L := by
  induction L with
  | nil => simp at h
  | cons f L ih =>
    have h3 : totE (f :: L) = f.bytes.length + totE L := by simp [totE]
    rcases List.mem_cons.1 h with rfl | h
    · omega
    · have := ih h; omega
theorem tot_take (L : List Ev) (k : Nat) : totE (L.take k) ≤ totE L := by
  have : totE L = totE (L.take k) + totE (L.drop k) := by
    unfold totE
    rw [← List.sum_append, ← List.map_append, List.take_append_drop]
  omega
/-- The last event's bytes grown by bytes that lie in memory, and laid into its place. -/
theorem EvsOwn.last2 {s : Nat} {w w1 : World} {u u' : Value} {e : Ev} {X : List Int} {Q : List EvP} {g cap : Nat} (h : EvsOwn s w (.slice (some ⟨g, 0, none⟩) (Q.length + 1) cap) (Q ++ [(e, u)])) (hown : OwnBytes s w1 u' (e.bytes ++ X)) (hg : w.grownBy w1 u.ownBlock) (hl : u'.ownBlock = u.ownBlock ∨ u'.ownBlock = some w.heap.size) :
    EvsOwn s (w1.setCell ⟨g, Q.length * 4 + 3, none⟩ u') (.slice (some ⟨g, 0, none⟩) (Q.length + 1) cap) (Q ++ [({ e with bytes := e.bytes ++ X }, u')]) ∧ Turn (fun k => s ≤ k) w (w1.setCell ⟨g, Q.length * 4 + 3, none⟩ u') := by
  have hul := h.own (e, u) (by simp)
  obtain ⟨hgs, hglt, _, _, _⟩ := h.lastGet
  have hrow0 := h.row
  rw [List.length_append, List.length_singleton] at hrow0
  have hrow1 : w1.ownsRow s 26 4 (.slice (some ⟨g, 0, none⟩) (Q.length + 1) cap) (Q.length + 1) (evC (Q ++ [(e, u)])) :=
    ownsRow_keep hrow0 fun k hk _ hlt => hg.block k hlt fun ee => ev_ne hrow0 hul k hk ee.symm
  obtain ⟨hrow2, hg2⟩ := hrow1.stored (Q.length * 4 + 3) u'
  rw [evC_set Q e u u'] at hrow2
  have hne : ∀ {q : Value} {L : List Int}, OwnBytes s w1 q L → q.ownBlock ≠ some g := fun {q L} hq e' => ev_ne hrow1 hq g rfl e'
  have hkeepQ : ∀ p ∈ Q, OwnBytes s w1 p.2 p.1.bytes := fun p hp => by
    refine ownsRow_keep (h.own p (by simp [hp])) fun k hk _ hlt => ?_
    refine hg.block k hlt fun ee => ?_
    exact (List.pairwise_append.1 h.sep).2.2 p hp (e, u) (by simp) k hk ee.symm
  have hset : ∀ {q : Value} {L : List Int}, OwnBytes s w1 q L → OwnBytes s (w1.setCell ⟨g, Q.length * 4 + 3, none⟩ u') q L := fun {q L} hq =>
    ownsRow_keep hq fun k hk _ _ => Below.heap_setCell _ _ _ _ (fun ee => hne hq (by rw [hk]; exact congrArg some ee))
  refine ⟨⟨?_, ?_, ?_⟩, ?_⟩
  · rw [List.length_append, List.length_singleton, show evC (Q ++ [({ e with bytes := e.bytes ++ X }, u')]) = evC (Q ++ [(e, u')]) by rw [evC_append, evC_append]; rfl]; exact hrow2
  · intro p hp
    rcases List.mem_append.1 hp with hp | hp
    · exact hset (hkeepQ p hp)
    · obtain rfl := List.mem_singleton.1 hp
      exact hset hown
  · rw [List.pairwise_append]
    refine ⟨(List.pairwise_append.1 h.sep).1, List.pairwise_singleton _ _, fun p hp q hq => ?_⟩
    rw [List.mem_singleton.1 hq]
    intro k hk hk'
    have hpo := own_lt (h.own p (by simp [hp])) k hk
    rcases hl with hl | hl
    · exact (List.pairwise_append.1 h.sep).2.2 p hp (e, u) (by simp) k hk (hl ▸ hk')
    · have : k = w.heap.size := by
        have hk'' : u'.ownBlock = some k := hk'
        rw [hl] at hk''
        exact (Option.some.inj hk'').symm
      omega
  · have t0 : Turn (fun k => s ≤ k) w w1 := by
      refine ⟨hg.os, hg.tape, hg.output, hg.size, fun k hk hS => hg.block k hk fun ee => hS (own_lt hul k ee.symm).1⟩
    exact t0.trans ((turn_set w1 g _ u').mono fun k hk => by rw [show k = g from hk]; exact hgs)
theorem EvsOwn.lastKeep2 {s : Nat} {w w5 : World} {g n cap : Nat} {Q : List EvP} {e : Ev} {u : Value} (h : EvsOwn s w (.slice (some ⟨g, 0, none⟩) n cap) (Q ++ [(e, u)])) (hg : w.grownBy w5 u.ownBlock) (hl : g < w.heap.size) : w5.heap[g]? = w.heap[g]? :=
  hg.block g hl fun ee => ev_ne h.row (h.own (e, u) (by simp)) g rfl ee.symm
theorem row_news {w : World} {a : Option Addr} {n c : Nat} {L : List Int} (h : RowOf .u8 w (.slice a n c) L) (hn : n = L.length) (h0 : 0 < n) : ∃ ad, a = some ad ∧ ∀ (j : Nat) (y : Value), (L.map (Value.int .u8))[j]? = some y → w.cell? (ad.add j) = some y := by
  obtain ⟨a', c', e', hr⟩ := h
  injection e' with e1 _ _
  obtain ⟨b, off, e2, hc⟩ := hr (by intro e; rw [hn, e] at h0; simp at h0)
  refine ⟨⟨b, off, none⟩, e1.trans e2, fun j y hy => ?_⟩
  have hj : j < L.length := by have := (List.getElem?_eq_some_iff.1 hy).1; simpa using this
  have e3 : (⟨b, off, none⟩ : Addr).add j = ⟨b, off + j, none⟩ := by unfold Addr.add; split <;> simp_all
  rw [e3, hc j hj]
  rw [List.getElem?_map, List.getElem?_eq_getElem hj] at hy
  simp [hj] at hy ⊢
  exact hy
def JoinRel (L : List Ev) (n s : Nat) (w : World) (v i : Value) (wr : World) : Prop :=
  ∃ (k : Nat) (P : List EvP), k ≤ n ∧ i = .int .i64 k ∧ EvsOwn s wr v P ∧ P.map (·.1) = joinL (L.take k) ∧ Below s w wr
/-- What a round finds. -/
structure JoinMid (s : Nat) (w wr : World) (v : Value) (P : List EvP) (q : Ev) (u : Value) (W1 : World) : Prop where
  evs : EvsOwn s wr v P
  old : Below s w wr
  sz : s ≤ wr.heap.size
  w1 : W1 = wr.alloc (.cells #[.int .i64 q.kind, .int .u8 q.code, .int .u8 q.option, u] 26)
  row : RowOf .u8 W1 u q.bytes
theorem JoinMid.box {s : Nat} {w wr : World} {v : Value} {P : List EvP} {q : Ev} {u : Value} {W1 : World} (h : JoinMid s w wr v P q u W1) : W1.heap[wr.heap.size]? = some (.cells #[.int .i64 q.kind, .int .u8 q.code, .int .u8 q.option, u] 26 (0, 0)) := by rw [h.w1]; exact heap_alloc_new wr _
theorem JoinMid.size {s : Nat} {w wr : World} {v : Value} {P : List EvP} {q : Ev} {u : Value} {W1 : World} (h : JoinMid s w wr v P q u W1) : W1.heap.size = wr.heap.size + 1 := by rw [h.w1, World.size_alloc]
theorem JoinMid.below {s : Nat} {w wr : World} {v : Value} {P : List EvP} {q : Ev} {u : Value} {W1 : World} (h : JoinMid s w wr v P q u W1) : Below wr.heap.size wr W1 := by rw [h.w1]; exact below_alloc wr _
/-- Behind the copy of the bytes. -/
theorem JoinMid.clone {s : Nat} {w wr w2 : World} {v : Value} {P : List EvP} {q : Ev} {u p : Value} {W1 : World} (h : JoinMid s w wr v P q u W1) (R : OwnBytes W1.heap.size w2 p q.bytes) (b2 : Below W1.heap.size W1 w2) :
    EvsOwn s (w2.setCell ⟨wr.heap.size, 3, none⟩ p) v P ∧ OwnBytes s (w2.setCell ⟨wr.heap.size, 3, none⟩ p) p q.bytes ∧ (∀ x ∈ P, Apart x (q, p)) ∧ Below s w (w2.setCell ⟨wr.heap.size, 3, none⟩ p) ∧ s ≤ (w2.setCell ⟨wr.heap.size, 3, none⟩ p).heap.size := by
  have hz := h.size
  have hs := h.sz
  have hb : Below s w (w2.setCell ⟨wr.heap.size, 3, none⟩ p) := ((h.old.trans (h.below.mono hs)).trans (b2.mono (by omega))).setCell (p := ⟨wr.heap.size, 3, none⟩) hs p
  refine ⟨h.evs.keep fun g _ hl => ?_, (R.keep fun g hg _ => ?_).lower (by omega), h.evs.fresh (k := W1.heap.size) (by omega) fun g e => R.first g e, hb, ?_⟩
  · rw [Below.heap_setCell _ _ _ _ (by show g ≠ wr.heap.size; omega), b2.block g (by omega), h.below.block g hl]
  · rw [Below.heap_setCell _ _ _ _ (by show g ≠ wr.heap.size; omega)]
  · have := b2.size
    have : (w2.setCell ⟨wr.heap.size, 3, none⟩ p).heap.size = w2.heap.size := by simp
    omega
set_option maxRecDepth 100000 in
set_option maxHeartbeats 1500000 in
theorem join_any (v : Value) (L : List Ev) (w : World) (h : EvsAt w v L) (hm : L.length ≤ 50000) (ht : totE L ≤ 100000) :
    Calls Try.prog 20 #[v] w fun e w' => ∃ v' P, e = .returned v' ∧ EvsOwn w.heap.size w' v' P ∧ P.map (·.1) = joinL L ∧ Below w.heap.size w w' := by
  obtain ⟨i0, hi, hz0, hz1, hz2⟩ := info_parts info_event
  obtain ⟨i1, hi', hy0, hy1, hy2⟩ := info_parts info_byte
  have hz := (zero_of_info (v := .agg #[.int .i64 0, .int .u8 0, .int .u8 0, .slice none 0 0]) (n := 4) (P := Try.prog) (t := 26) (by kernel_rfl)).1
  obtain ⟨s, hs⟩ : ∃ s, s = w.heap.size := ⟨_, rfl⟩
  rw [← hs]
  obtain ⟨a, cap, rfl, hrow⟩ := h
  obtain ⟨n, hn⟩ : ∃ n, n = L.length := ⟨_, rfl⟩
  rw [← hn] at hm ⊢
  have HN := Lib.hid hn
  have HR := Lib.hid hrow
  have HS := Lib.hid hs
  have HTOT := Lib.hid ht
  clear hn hrow hs ht
  go_enter Try.func20, Try.ntmps20
  go_wp2_with fail
  go_loopw [3, 9] (fun v i wr => JoinRel L n s w v i wr) (fun _ i _ => n - (intOf i).toNat)
  case atStart => exact ⟨0, [], by omega, rfl, EvsOwn.nil s w, by simp [joinL], by rw [HS.out]; exact Below.refl _ _⟩
  case round =>
    obtain ⟨k, P, hk, rfl, hE, hP, hold⟩ := hrel
    have hsz : s ≤ wr.heap.size := by have := hold.size; have := HS.out; omega
    by_cases hkn : k < n
    · have hkl : k < L.length := by rw [← HN.out]; exact hkn
      obtain ⟨g, off, rfl, hgl, hc⟩ := HR.out (by intro e; rw [e] at hkl; simp at hkl)
      obtain ⟨q, hq⟩ : ∃ q, L[k]? = some q := ⟨_, List.getElem?_eq_getElem hkl⟩
      have htk : L.take (k + 1) = L.take k ++ [q] := by
        rw [List.take_succ_eq_append_getElem hkl]
        obtain ⟨_, e⟩ := List.getElem?_eq_some_iff.1 hq
        rw [e]
      have hnx : joinL (L.take (k + 1)) = joinE (joinL (L.take k)) q := by rw [htk, joinL_snoc]
      obtain ⟨u, d0, d1, d2, d3, hu⟩ := hc k q hq
      have hgs : g < s := by rw [HS.out]; exact hgl
      have d0 := (hold.cell (p := ⟨g, off + k * 4, none⟩) hgs).trans d0
      have d1 := (hold.cell (p := ⟨g, off + k * 4 + 1, none⟩) hgs).trans d1
      have d2 := (hold.cell (p := ⟨g, off + k * 4 + 2, none⟩) hgs).trans d2
      have d3 := (hold.cell (p := ⟨g, off + k * 4 + 3, none⟩) hgs).trans d3
      have hqt := tot_mem (List.mem_of_getElem? hq)
      have htk1 := joinL_tot (L.take k)
      have htk2 := tot_take L k
      have hpl : P.length ≤ 50000 := by
        have h1 : P.length = (joinL (L.take k)).length := by rw [← hP, List.length_map]
        have h2 : (L.take k).length ≤ k := by rw [List.length_take]; omega
        omega
      have hpb : ∀ p ∈ P, p.1.bytes.length ≤ 100000 := fun p hp => by
        have h1 : p.1 ∈ joinL (L.take k) := by rw [← hP]; exact List.mem_map_of_mem hp
        have h2 := tot_mem h1
        have := HTOT.out
        omega
      have hql : q.bytes.length ≤ 100000 := by have := HTOT.out; omega
      have hur := (hu.below (by have := hold; rw [HS.out] at this; exact this)).below (below_alloc wr (.cells #[.int .i64 q.kind, .int .u8 q.code, .int .u8 q.option, u] 26))
      have HJ := Lib.hid (⟨hE, hold, hsz, rfl, hur⟩ : JoinMid s w wr _ P q u _)
      obtain ⟨W1, hW1⟩ : ∃ W1, W1 = wr.alloc (.cells #[.int .i64 q.kind, .int .u8 q.code, .int .u8 q.option, u] 26) := ⟨_, rfl⟩
      rw [← hW1] at HJ
      have HW1 := Lib.hid hW1.symm
      have HNX := Lib.hid hnx
      have HP := Lib.hid hP
      have HPB := Lib.hid hpb
      have HQL := Lib.hid hql
      have HE := Lib.hid hE
      have HOLD := Lib.hid hold
      obtain ⟨pl, hpl2⟩ : ∃ pl, pl = P.length := ⟨_, rfl⟩
      have HPL := Lib.hid hpl2
      rw [← hpl2] at hpl
      have pl_bd := hpl
      clear hpl
      obtain ⟨va, vc, hv⟩ := hE.form
      rw [← hpl2] at hv
      subst hv
      obtain ⟨ua, ul, uc, rfl⟩ : ∃ ua ul uc, u = .slice ua ul uc := by
        obtain ⟨a', c', e', _⟩ := hu
        exact ⟨a', _, c', e'⟩
      have hul : ul = q.bytes.length := by
        obtain ⟨a', c', e', _⟩ := hu
        injection e'
      have HUL := Lib.hid hul
      clear hW1 hnx hP hpb hql hold hE hc hkl hgl hq hur hu hgs htk htk1 htk2 hqt hpl2 hul
      go_upto_region 5 with fail
      rw [HW1.out]
      obtain ⟨⟨b0, b1, b2, b3⟩, bF⟩ := boxed_facts HJ.out.box
      have bF := bF 3
      by_cases hk1 : q.kind = 1
      · have hk1b : (q.kind == 1) = true := by simp [hk1]
        by_cases hq0 : q.bytes = []
        · have hul0 : ul = 0 := by rw [HUL.out, hq0]; rfl
          subst hul0
          have hstay : joinE (joinL (L.take k)) q = joinL (L.take k) := by unfold joinE; rw [if_pos ⟨hk1, hq0⟩]
          have HST := Lib.hid hstay
          clear hstay hk1 hq0
          go_wp2_with fail
          go_roundw
          case rel => exact ⟨k + 1, P, by omega, by go_num, HJ.out.evs.below HJ.out.below, by rw [HNX.out, HST.out, HP.out], HJ.out.old.trans (HJ.out.below.mono HJ.out.sz)⟩
          case measure => simp [intOf]; omega
        · have hul1 : 0 < ul := by
            rw [HUL.out]
            exact List.length_pos_iff.2 hq0
          have hstay : joinE (joinL (L.take k)) q = addL (joinL (L.take k)) q := by unfold joinE; rw [if_neg fun h => hq0 h.2]
          have HNX := Lib.hid (HNX.out.trans hstay)
          clear hq0 hstay
          rcases List.eq_nil_or_concat P with rfl | ⟨Q, ⟨f0, u0⟩, rfl⟩
          · obtain rfl : pl = 0 := by rw [HPL.out]; rfl
            have HNX : Hid (joinL (L.take (k + 1)) = ([] : List EvP).map (·.1) ++ [q]) := Lib.hid (by rw [HNX.out, ← HP.out]; rfl)
            clear hk1
            go_wp2_with fail
            refine (clone_any (.slice ua ul uc) _ W1 HJ.out.row HQL.out).mono ?_
            rintro e w2 ⟨p, rfl, R, b2⟩
            obtain ⟨⟨e0, e1, e2, e3⟩, eF⟩ := boxed_facts ((b2.block _ (by have := HJ.out.size; omega)).trans HJ.out.box)
            obtain ⟨hE3, hO3, hA3, hB3, hs3⟩ := HJ.out.clone R b2
            have eF := eF 3
            obtain ⟨pa, pc, rfl⟩ := R.slice
            obtain ⟨W3, hW3⟩ : ∃ W3, W3 = w2.setCell ⟨wr.heap.size, 3, none⟩ (.slice pa q.bytes.length pc) := ⟨_, rfl⟩
            rw [← hW3] at hE3 hO3 hB3 hs3
            have hraw := hE3.row
            rw [← HPL.out] at hraw
            have HE3 := Lib.hid hE3
            have HO3 := Lib.hid hO3
            have HA3 := Lib.hid hA3
            have HB3 := Lib.hid hB3
            have HCL := Lib.hid (ev_cl W3 q.kind q.code q.option (.slice pa q.bytes.length pc))
            have HBX : Hid (W3.heap[wr.heap.size]? = some (.cells #[.int .i64 q.kind, .int .u8 q.code, .int .u8 q.option, .slice pa q.bytes.length pc] 26 (0, 0))) := Lib.hid (by rw [hW3]; exact heap_set ((b2.block _ (by have := HJ.out.size; omega)).trans HJ.out.box) 3 _)
            have HW3 := Lib.hid hW3.symm
            clear b2 R hE3 hO3 hA3 hB3 hW3
            go_upto_region 10 with fail
            rw [HW3.out]
            obtain ⟨⟨i0', i1', i2', i3'⟩, _⟩ := boxed_facts HBX.out
            go_wp2_with (at_builtin; refine wpList_append_own _ rfl _ _ 22 rfl s 26 i0 (.agg #[.int .i64 0, .int .u8 0, .int .u8 0, .slice none 0 0]) 4 40 Try.underlying22 hi hz0 hz1 hz2 rfl (by decide) _ _ _ rfl (hraw.alloc _) ⟨W3.heap.size, 0, none⟩ 1 1 [.int .i64 q.kind, .int .u8 q.code, .int .u8 q.option, .slice pa q.bytes.length pc] rfl rfl HCL.out (by simp [Value.oneCell']) (by unfold maxLen; omega) (by omega) (by rw [World.size_alloc]; omega) ?_; intro v' w5 hown' hgrow _)
            go_roundw
            case rel =>
              have hE5 := HE3.out.grown (e := q) HO3.out HA3.out (by rw [← HPL.out]; exact hown') hgrow
              have hT5 := turn_grown_from hgrow hs3 HE3.out.rowFirst
              exact ⟨k + 1, _, by omega, by go_num, hE5, by rw [HNX.out, List.map_append]; rfl, HB3.out.trans (hT5.below hs3 fun _ h => h)⟩
            case measure => simp [intOf]; omega
          · rw [List.concat_eq_append] at HP HPB HE HPL HJ
            obtain ⟨gv, cv, hv⟩ := HJ.out.evs.lastForm
            obtain rfl : pl = Q.length + 1 := by rw [HPL.out]; simp
            obtain ⟨rfl, rfl⟩ : va = some ⟨gv, 0, none⟩ ∧ vc = cv := by injection hv with h1 _ h2; exact ⟨h1, h2⟩
            obtain ⟨hsg, hgl, c0, c3, f3⟩ := HJ.out.evs.lastGet
            have c0 := (HJ.out.below.cell (p := ⟨gv, Q.length * 4, none⟩) hgl).trans c0
            have c3 := (HJ.out.below.cell (p := ⟨gv, Q.length * 4 + 3, none⟩) hgl).trans c3
            have f3 := (HJ.out.below.frozen (p := ⟨gv, Q.length * 4 + 3, none⟩) hgl).trans f3
            obtain ⟨q0, hq0⟩ : ∃ q0, q0 = Q.length := ⟨_, rfl⟩
            rw [← hq0] at c0 c3 f3 pl_bd HPL HJ HE
            clear hv
            rw [← hq0]
            have HQ0 := Lib.hid hq0
            clear hq0
            by_cases hf : f0.kind = 1
            · have HNX : Hid (joinL (L.take (k + 1)) = Q.map (·.1) ++ [{ f0 with bytes := f0.bytes ++ q.bytes }]) := Lib.hid (by rw [HNX.out, ← HP.out, List.map_append]; exact addL_data _ _ _ hf hk1)
              have hE1 := HJ.out.evs.below HJ.out.below
              have hu0 := hE1.own (f0, u0) (by simp)
              have hraw : W1.ownsRow s 5 1 u0 f0.bytes.length (f0.bytes.map (Value.int .u8)) := hu0
              have hfl := HPB.out (f0, u0) (by simp)
              obtain ⟨m, hm0⟩ : ∃ m, m = f0.bytes.length := ⟨_, rfl⟩
              rw [← hm0] at hraw
              have hfl : m ≤ 100000 := by rw [hm0]; exact hfl
              have HM0 := Lib.hid hm0
              have hsz1 : s ≤ W1.heap.size := by have := HJ.out.size; omega
              have HE1 := Lib.hid hE1
              have hg1 : gv < W1.heap.size := by have := HJ.out.size; omega
              obtain ⟨cu, hcu, hqc⟩ : ∃ cu, ua = some cu ∧ ∀ (j : Nat) (y : Value), (q.bytes.map (Value.int .u8))[j]? = some y → W1.cell? (cu.add j) = some y := row_news HJ.out.row HUL.out hul1
              subst hcu
              have HQC := Lib.hid hqc
              have hqln : (q.bytes.map (Value.int .u8)).length = ul * 1 := by rw [List.length_map, HUL.out]; omega
              have hull : ul ≤ 100000 := by rw [HUL.out]; exact HQL.out
              rw [hf] at c0
              clear hk1 hf hE1 hu0 hm0 hqc
              go_upto_region 8 with fail
              have hrawd : W1.drew.ownsRow s 5 1 u0 m (f0.bytes.map (Value.int .u8)) := hraw
              have hqa : (0 : Int) ≤ (q0 : Int) := Int.natCast_nonneg _
              have hqb : (q0 : Int) < ((q0 + 1 : Nat) : Int) := by omega
              have hqc : (q0 : Int) < (q0 : Int) + 1 := by omega
              go_region_law (refine step_append_lies _ (by rfl) _ _ _ (by rfl) s 5 i1 _ 1 1 Try.underlying24 hi' hy0 hy1 hy2 rfl (by omega) u0 m _ (by rfl) hrawd cu ul uc (q.bytes.map (Value.int .u8)) (by rfl) hqln HQC.out (bytes_one _) hul1 (by unfold maxLen; omega) (by omega) (by show s ≤ W1.heap.size; omega) W1.heap.size (by rfl) ?_; intro gg cap5 w5 hown5 hgrow5 hat5 hlt5; have hg5 : W1.grownBy w5 u0.ownBlock := ⟨hgrow5.os, hgrow5.tape, hgrow5.output, hgrow5.size, hgrow5.block⟩; have hblk := HE1.out.lastKeep2 hg5 hg1; have c5 := (cell_block hblk (q0 * 4 + 3)).trans c3; have f5 := (frozen_block hblk (q0 * 4 + 3)).trans f3)
              all_goals
                have HOWN5 := Lib.hid hown5
                have HG5 := Lib.hid hg5
                have HAT5 := Lib.hid hat5
                clear hown5 hgrow5 hg5 hat5 hblk hrawd hraw
                go_wp2_with fail
                go_roundw
                case rel =>
                  have hE1 := HE1.out
                  rw [HQ0.out] at hE1
                  obtain ⟨k1, k2⟩ := hE1.last2 (X := q.bytes) (u' := .slice (some ⟨gg, 0, none⟩) (m + ul) cap5) (by have h := HOWN5.out; unfold OwnBytes; rw [List.length_append, List.map_append, ← HM0.out, ← HUL.out]; exact h) HG5.out (HAT5.out.elim (fun h => .inl h.symm) (fun h => .inr (by rw [h]; rfl)))
                  rw [← HQ0.out] at k1 k2
                  exact ⟨k + 1, _, by omega, by go_num, k1, by rw [HNX.out, List.map_append]; rfl, (HJ.out.old.trans (HJ.out.below.mono hsz)).trans (k2.below hsz1 fun _ h => h)⟩
                case measure => simp [intOf]; omega
            · have hfb : (f0.kind == 1) = false := by simpa using hf
              have HNX : Hid (joinL (L.take (k + 1)) = (Q ++ [((f0, u0) : EvP)]).map (·.1) ++ [q]) := Lib.hid (by rw [HNX.out, ← HP.out, List.map_append]; exact addL_other _ _ _ fun h => hf h.1)
              clear hk1 hf
              go_wp2_with fail
              refine (clone_any (.slice ua ul uc) _ W1 HJ.out.row HQL.out).mono ?_
              rintro e w2 ⟨p, rfl, R, b2⟩
              obtain ⟨⟨e0, e1, e2, e3⟩, eF⟩ := boxed_facts ((b2.block _ (by have := HJ.out.size; omega)).trans HJ.out.box)
              obtain ⟨hE3, hO3, hA3, hB3, hs3⟩ := HJ.out.clone R b2
              have eF := eF 3
              obtain ⟨pa, pc, rfl⟩ := R.slice
              obtain ⟨W3, hW3⟩ : ∃ W3, W3 = w2.setCell ⟨wr.heap.size, 3, none⟩ (.slice pa q.bytes.length pc) := ⟨_, rfl⟩
              rw [← hW3] at hE3 hO3 hB3 hs3
              have hraw := hE3.row
              rw [← HPL.out] at hraw
              have HE3 := Lib.hid hE3
              have HO3 := Lib.hid hO3
              have HA3 := Lib.hid hA3
              have HB3 := Lib.hid hB3
              have HCL := Lib.hid (ev_cl W3 q.kind q.code q.option (.slice pa q.bytes.length pc))
              have HBX : Hid (W3.heap[wr.heap.size]? = some (.cells #[.int .i64 q.kind, .int .u8 q.code, .int .u8 q.option, .slice pa q.bytes.length pc] 26 (0, 0))) := Lib.hid (by rw [hW3]; exact heap_set ((b2.block _ (by have := HJ.out.size; omega)).trans HJ.out.box) 3 _)
              have HW3 := Lib.hid hW3.symm
              clear b2 R hE3 hO3 hA3 hB3 hW3
              go_upto_region 10 with fail
              rw [HW3.out]
              obtain ⟨⟨i0', i1', i2', i3'⟩, _⟩ := boxed_facts HBX.out
              go_wp2_with (at_builtin; refine wpList_append_own _ rfl _ _ 22 rfl s 26 i0 (.agg #[.int .i64 0, .int .u8 0, .int .u8 0, .slice none 0 0]) 4 40 Try.underlying22 hi hz0 hz1 hz2 rfl (by decide) _ _ _ rfl (hraw.alloc _) ⟨W3.heap.size, 0, none⟩ 1 1 [.int .i64 q.kind, .int .u8 q.code, .int .u8 q.option, .slice pa q.bytes.length pc] rfl rfl HCL.out (by simp [Value.oneCell']) (by unfold maxLen; omega) (by omega) (by rw [World.size_alloc]; omega) ?_; intro v' w5 hown' hgrow _)
              go_roundw
              case rel =>
                have hE5 := HE3.out.grown (e := q) HO3.out HA3.out (by rw [← HPL.out]; exact hown') hgrow
                have hT5 := turn_grown_from hgrow hs3 HE3.out.rowFirst
                exact ⟨k + 1, _, by omega, by go_num, hE5, by rw [HNX.out, List.map_append]; rfl, HB3.out.trans (hT5.below hs3 fun _ h => h)⟩
              case measure => simp [intOf]; omega
      · have hk1b : (q.kind == 1) = false := by simp [hk1]
        have HNX : Hid (joinL (L.take (k + 1)) = P.map (·.1) ++ [q]) := Lib.hid (by rw [HNX.out]; unfold joinE; rw [if_neg fun h => hk1 h.1, addL_kind _ _ hk1, HP.out])
        clear hk1
        go_wp2_with fail
        refine (clone_any (.slice ua ul uc) _ W1 HJ.out.row HQL.out).mono ?_
        rintro e w2 ⟨p, rfl, R, b2⟩
        obtain ⟨⟨e0, e1, e2, e3⟩, eF⟩ := boxed_facts ((b2.block _ (by have := HJ.out.size; omega)).trans HJ.out.box)
        obtain ⟨hE3, hO3, hA3, hB3, hs3⟩ := HJ.out.clone R b2
        have eF := eF 3
        obtain ⟨pa, pc, rfl⟩ := R.slice
        obtain ⟨W3, hW3⟩ : ∃ W3, W3 = w2.setCell ⟨wr.heap.size, 3, none⟩ (.slice pa q.bytes.length pc) := ⟨_, rfl⟩
        rw [← hW3] at hE3 hO3 hB3 hs3
        have hraw := hE3.row
        rw [← HPL.out] at hraw
        have HE3 := Lib.hid hE3
        have HO3 := Lib.hid hO3
        have HA3 := Lib.hid hA3
        have HB3 := Lib.hid hB3
        have HCL := Lib.hid (ev_cl W3 q.kind q.code q.option (.slice pa q.bytes.length pc))
        have HBX : Hid (W3.heap[wr.heap.size]? = some (.cells #[.int .i64 q.kind, .int .u8 q.code, .int .u8 q.option, .slice pa q.bytes.length pc] 26 (0, 0))) := Lib.hid (by rw [hW3]; exact heap_set ((b2.block _ (by have := HJ.out.size; omega)).trans HJ.out.box) 3 _)
        have HW3 := Lib.hid hW3.symm
        clear b2 R hE3 hO3 hA3 hB3 hW3
        go_upto_region 10 with fail
        rw [HW3.out]
        obtain ⟨⟨i0', i1', i2', i3'⟩, _⟩ := boxed_facts HBX.out
        go_wp2_with (at_builtin; refine wpList_append_own _ rfl _ _ 22 rfl s 26 i0 (.agg #[.int .i64 0, .int .u8 0, .int .u8 0, .slice none 0 0]) 4 40 Try.underlying22 hi hz0 hz1 hz2 rfl (by decide) _ _ _ rfl (hraw.alloc _) ⟨W3.heap.size, 0, none⟩ 1 1 [.int .i64 q.kind, .int .u8 q.code, .int .u8 q.option, .slice pa q.bytes.length pc] rfl rfl HCL.out (by simp [Value.oneCell']) (by unfold maxLen; omega) (by omega) (by rw [World.size_alloc]; omega) ?_; intro v' w5 hown' hgrow _)
        go_roundw
        case rel =>
          have hE5 := HE3.out.grown (e := q) HO3.out HA3.out (by rw [← HPL.out]; exact hown') hgrow
          have hT5 := turn_grown_from hgrow hs3 HE3.out.rowFirst
          exact ⟨k + 1, _, by omega, by go_num, hE5, by rw [HNX.out, List.map_append]; rfl, HB3.out.trans (hT5.below hs3 fun _ h => h)⟩
        case measure => simp [intOf]; omega
    · obtain rfl : n = k := by omega
      rw [List.take_of_length_le (by rw [← HN.out]; exact Nat.le_refl _)] at hP
      have HP := Lib.hid hP
      have HE := Lib.hid hE
      have HO := Lib.hid hold
      clear hP hE hold
      go_wp2_with fail
      go_ret
      exact ⟨_, P, rfl, HE.out, HP.out, HO.out⟩
end Go.Proofs.Ytimidoaafllnkaa.Iac
