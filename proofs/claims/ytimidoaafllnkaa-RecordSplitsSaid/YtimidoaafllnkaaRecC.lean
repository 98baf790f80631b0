/-
  Rows of records; the contract of All.
-/
import Derived.Test.YtimidoaafllnkaaRecZ
import Derived.Test.YtimidoaafllnkaaDecF
namespace Go.Proofs.Ytimidoaafllnkaa.Rec
open Go.RowKit Base Iac
set_option linter.unusedVariables false

/-! ### Rows of rows of bytes, of the call's own -/
theorem info_u8s : (Try.prog.info? 24).map (fun i => (i.zero, i.size, i.bytes)) = some (some (.slice none 0 0), 1, 24) := by kernel_rfl
abbrev RP := List Int × Value
structure RowsOwn (s : Nat) (w : World) (v : Value) (R : List RP) : Prop where
  row : w.ownsRow s 24 1 v R.length (R.map (·.2))
  own : ∀ p ∈ R, OwnBytes s w p.2 p.1
theorem rows_ne {s s' : Nat} {w : World} {v u : Value} {n : Nat} {xs : List Value} {L : List Int} (h : w.ownsRow s 24 1 v n xs) (k : OwnBytes s' w u L) : ∀ g, v.ownBlock = some g → u.ownBlock = some g → False := by
  intro g e1 e2
  obtain ⟨c, fz, h1⟩ := Lib.ownsRow_kind h g e1
  obtain ⟨c', fz', h2⟩ := Lib.ownsRow_kind k g e2
  rw [h1] at h2
  cases h2
section
variable {s : Nat} {w w' : World} {v : Value} {R : List RP}
theorem RowsOwn.nil (s : Nat) (w : World) : RowsOwn s w (.slice none 0 0) [] := ⟨⟨rfl, .inl ⟨rfl, rfl⟩⟩, by simp⟩
theorem RowsOwn.keep (h : RowsOwn s w v R) (u : ∀ g, s ≤ g → g < w.heap.size → w'.heap[g]? = w.heap[g]?) : RowsOwn s w' v R :=
  ⟨ownsRow_keep h.row fun g _ => u g, fun p hp => (h.own p hp).keep u⟩
theorem RowsOwn.below (h : RowsOwn s w v R) (u : Below w.heap.size w w') : RowsOwn s w' v R := h.keep fun g _ hl => u.block g hl
theorem RowsOwn.turn {T : Nat → Prop} (h : RowsOwn s w v R) (t : Turn T w w') (hT : ∀ k, T k → k < s ∨ w.heap.size ≤ k) : RowsOwn s w' v R := h.keep fun g hs hl => t.block g hl fun e => by rcases hT g e with h | h <;> omega
theorem RowsOwn.form (h : RowsOwn s w v R) : ∃ a cap, v = .slice a R.length cap := by
  rcases h.row.2 with ⟨rfl, h0⟩ | ⟨g, cap, cur, rfl, _⟩
  · exact ⟨none, 0, by rw [h0]⟩
  · exact ⟨_, _, rfl⟩
theorem RowsOwn.lower {s' : Nat} (h : RowsOwn s w v R) (hs : s' ≤ s) : RowsOwn s' w v R := ⟨ownsRow_base h.row hs, fun p hp => (h.own p hp).lower hs⟩
/-- One laid behind. -/
theorem RowsOwn.grown {w1 : World} {v' u : Value} {L : List Int} {o : Obj} (h : RowsOwn s w v R) (hu : OwnBytes s w u L) (hown : w1.ownsRow s 24 1 v' (R.length + 1) (R.map (·.2) ++ [u])) (hg : (w.alloc o).grownBy w1 v.ownBlock) : RowsOwn s w1 v' (R ++ [(L, u)]) := by
  have hk : ∀ {q : Value} {M : List Int}, OwnBytes s w q M → OwnBytes s w1 q M := fun {q M} hq => by
    refine ownsRow_keep hq fun g hqg _ hl => ?_
    exact (hg.block g (by rw [World.size_alloc]; omega) fun ee => rows_ne h.row hq g ee.symm hqg).trans (Below.heap_alloc _ _ _ hl)
  refine ⟨by rw [List.length_append, List.map_append]; exact hown, fun p hp => ?_⟩
  rcases List.mem_append.1 hp with hp | hp
  · exact hk (h.own p hp)
  · rw [List.mem_singleton.1 hp]; exact hk hu
end
theorem rows_cl (w : World) (u : Value) : ∀ (j : Nat) (y : Value), ([u] : List Value)[j]? = some y → (w.alloc (.cells #[u] 24)).cell? ((⟨w.heap.size, 0, none⟩ : Addr).add j) = some y := by
  intro j y hy
  match j, hy with
  | 0, hy => simp at hy; subst hy; simp [go_sem, Addr.add]

/-! ### Plainly -/
structure St where
  b : List Int
  lg : Bool
  rs : List (List Int)
  n : Nat
def stepM (S : St) (e : Ev) : St :=
  if e.kind = 1 then { S with b := S.b ++ e.bytes.take (8192 - S.b.length), lg := S.lg || decide (8192 - S.b.length < e.bytes.length) }
  else if e.kind = 2 then (if S.lg = true then ⟨[], false, S.rs, S.n + 1⟩ else ⟨[], false, S.rs ++ [S.b], S.n⟩)
  else S
def runM (L : List Ev) : St := L.foldl stepM ⟨[], false, [], 0⟩
theorem runM_snoc (L : List Ev) (e : Ev) : runM (L ++ [e]) = stepM (runM L) e := by simp [runM]
theorem stepM_n (S : St) (e : Ev) : (stepM S e).n ≤ S.n + 1 ∧ (stepM S e).rs.length ≤ S.rs.length + 1 := by
  unfold stepM
  split
  · exact ⟨by simp, by simp⟩
  · split
    · split
      · exact ⟨by simp, by simp⟩
      · exact ⟨by simp, by simp⟩
    · exact ⟨by omega, by omega⟩
theorem foldM_n (L : List Ev) : ∀ S : St, (L.foldl stepM S).n ≤ S.n + L.length ∧ (L.foldl stepM S).rs.length ≤ S.rs.length + L.length := by
  induction L with
  | nil => intro S; simp
  | cons e L ih =>
    intro S
    have h1 := ih (stepM S e)
    have h2 := stepM_n S e
    rw [List.foldl_cons, List.length_cons]
    exact ⟨by omega, by omega⟩
theorem runM_n (L : List Ev) : (runM L).n ≤ L.length ∧ (runM L).rs.length ≤ L.length := by
  have := foldM_n L ⟨[], false, [], 0⟩
  simpa [runM] using this
structure AR (L : List Ev) (s : Nat) (w : World) (k : Nat) (v : Value) (n : Int) (wr : World) : Prop where
  mak : MakAt wr s (runM (L.take k)).b (runM (L.take k)).lg
  rows : ∃ R, RowsOwn (s + 1) wr v R ∧ R.map (·.1) = (runM (L.take k)).rs
  n : n = ((runM (L.take k)).n : Nat)
  old : Below s w wr
def AllRel (L : List Ev) (n s : Nat) (w : World) (v c i : Value) (wr : World) : Prop := ∃ (k : Nat) (m : Int), k ≤ n ∧ i = .int .i64 k ∧ c = .int .i64 m ∧ AR L s w k v m wr
set_option maxRecDepth 100000 in
set_option maxHeartbeats 4000000 in
theorem all_any (v : Value) (L : List Ev) (w : World) (h : EvsAt w v L) (hl : L.length ≤ 200000) (hb : ∀ e ∈ L, e.bytes.length ≤ 1000000) :
    Calls Try.prog 61 #[v] w fun e w' => ∃ u R, e = .returned (.tuple #[u, .int .i64 (runM L).n]) ∧ RowsOwn w.heap.size w' u R ∧ R.map (·.1) = (runM L).rs ∧ Below w.heap.size w w' := by
  have hzm := (zero_of_info info_mk).1
  obtain ⟨i0, hi, hz0, hz1, hz2⟩ := info_parts info_u8s
  obtain ⟨s, hs⟩ : ∃ s, s = w.heap.size := ⟨_, rfl⟩
  obtain ⟨a, cap, rfl, hrow⟩ := h
  obtain ⟨n, hn⟩ : ∃ n, n = L.length := ⟨_, rfl⟩
  have hm := mak_new w
  have hbm := below_alloc w (.cells zmk 134)
  obtain ⟨W0, hW0⟩ : ∃ W0, W0 = w.alloc (.cells zmk 134) := ⟨_, rfl⟩
  rw [← hW0, ← hs] at hm
  rw [← hW0, ← hs] at hbm
  rw [← hn] at hl ⊢
  rw [← hs]
  have HN := Lib.hid hn
  have HR := Lib.hid hrow
  have HS := Lib.hid hs.symm
  have HM := Lib.hid hm
  have HBM := Lib.hid hbm
  have HW0 := Lib.hid hW0.symm
  have HBD := Lib.hid hb
  clear hn hrow hs hm hbm hW0 hb
  go_enter Try.func61, Try.ntmps61
  go_upto_region 2 with fail
  rw [HW0.out, HS.out]
  go_wp2_with fail
  go_loopw [5, 6, 14] (fun v c i wr => AllRel L n s w v c i wr) (fun _ _ i _ => n - (intOf i).toNat)
  case atStart => exact ⟨0, 0, by omega, rfl, rfl, ⟨HM.out, ⟨[], RowsOwn.nil _ _, rfl⟩, rfl, HBM.out⟩⟩
  case round =>
    obtain ⟨k, m, hk, rfl, rfl, hA⟩ := hrel
    have hlt := hA.mak.lt
    have HA := Lib.hid hA
    by_cases hkn : k < n
    · have hkl : k < L.length := by rw [← HN.out]; exact hkn
      obtain ⟨g, off, rfl, hgl, hc⟩ := HR.out (by intro e; rw [e] at hkl; simp at hkl)
      obtain ⟨q, hq⟩ : ∃ q, L[k]? = some q := ⟨_, List.getElem?_eq_getElem hkl⟩
      have htk : L.take (k + 1) = L.take k ++ [q] := by
        rw [List.take_succ_eq_append_getElem hkl]
        obtain ⟨_, e⟩ := List.getElem?_eq_some_iff.1 hq
        rw [e]
      obtain ⟨u, d0, d1, d2, d3, hu⟩ := hc k q hq
      obtain ⟨kd, cd, op, bs⟩ := q
      simp only at d0 d1 d2 hu
      have hgs : g < s := by rw [← HS.out]; exact hgl
      have d0 := (hA.old.cell (p := ⟨g, off + k * 4, none⟩) hgs).trans d0
      have d1 := (hA.old.cell (p := ⟨g, off + k * 4 + 1, none⟩) hgs).trans d1
      have d2 := (hA.old.cell (p := ⟨g, off + k * 4 + 2, none⟩) hgs).trans d2
      have d3 := (hA.old.cell (p := ⟨g, off + k * 4 + 3, none⟩) hgs).trans d3
      have hru := hu.below (show Below w.heap.size w wr by rw [HS.out]; exact hA.old)
      have hqb : bs.length ≤ 1000000 := HBD.out ⟨kd, cd, op, bs⟩ (List.mem_of_getElem? hq)
      obtain ⟨ua, ul, uc, rfl⟩ : ∃ ua ul uc, u = .slice ua ul uc := by
        obtain ⟨a', c', e', _⟩ := hu
        exact ⟨a', _, c', e'⟩
      have hb1 := below_alloc wr (.cells #[.int .i64 kd, .int .u8 cd, .int .u8 op, .slice ua ul uc] 26)
      have hblk := boxed4 (heap_alloc_new wr (.cells #[.int .i64 kd, .int .u8 cd, .int .u8 op, .slice ua ul uc] 26))
      obtain ⟨W1, hW1⟩ : ∃ W1, W1 = wr.alloc (.cells #[.int .i64 kd, .int .u8 cd, .int .u8 op, .slice ua ul uc] 26) := ⟨_, rfl⟩
      rw [← hW1] at hb1 hblk
      have HTK := Lib.hid (show runM (L.take (k + 1)) = stepM (runM (L.take k)) ⟨kd, cd, op, bs⟩ by rw [htk, runM_snoc])
      have HB1 := Lib.hid hb1
      have HRU := Lib.hid (hru.below hb1)
      have HM1 := Lib.hid (hA.mak.below hb1)
      have HO1 := Lib.hid (hA.old.trans (hb1.mono (by omega)))
      obtain ⟨R, hR, hRm⟩ := hA.rows
      have HR1 := Lib.hid (hR.below hb1)
      have HRM := Lib.hid hRm
      have HNN := Lib.hid hA.n
      have HS1 : Hid (s ≤ W1.heap.size) := Lib.hid (by have := hb1.size; omega)
      have HW1 := Lib.hid hW1.symm
      have HSL : Hid (s < wr.heap.size) := Lib.hid hlt
      obtain ⟨b0, b1, b2, b3⟩ := hblk
      obtain ⟨S, hS⟩ : ∃ S, S = runM (L.take k) := ⟨_, rfl⟩
      have hSn := runM_n (L.take k)
      rw [← hS] at HTK HM1 HRM HNN hSn
      have hS2 : S.rs.length ≤ k := Nat.le_trans hSn.2 (by rw [List.length_take]; omega)
      have hS1 : S.n ≤ k := Nat.le_trans hSn.1 (by rw [List.length_take]; omega)
      clear hS hSn htk hq hc hkl hgl hu hru hb1 hW1 hR hRm hA hgs hlt
      clear HA
      go_upto_region 7 with fail
      rw [HW1.out]
      by_cases k1 : kd = 1
      · subst k1
        go_wp2_with fail
        refine (take_data cd op _ bs HM1.out HRU.out hqb).mono ?_
        rintro e W2 ⟨rfl, hm2, ht2⟩
        have HM2 := Lib.hid hm2
        have HR2 := Lib.hid (HR1.out.turn ht2 fun k hk => hk.imp (fun e => by omega) id)
        have HO2 := Lib.hid (HO1.out.trans (ht2.below HS1.out fun k hk => by rcases hk with rfl | hk; exact Nat.le_refl _; have := HS1.out; omega))
        clear hm2 ht2 b0 b1 b2 b3
        go_wp2_with fail
        go_roundw
        case rel => exact ⟨k + 1, m, by omega, by go_num, rfl, ⟨by rw [HTK.out]; exact HM2.out, ⟨R, HR2.out, by rw [HTK.out]; exact HRM.out⟩, by rw [HTK.out]; exact HNN.out, HO2.out⟩⟩
        case measure => simp [intOf]; omega
      · by_cases k2 : kd = 2
        · subst k2
          cases hlg : S.lg
          · rw [hlg] at HM1
            have HTK2 : Hid (runM (L.take (k + 1)) = ⟨[], false, S.rs ++ [S.b], S.n⟩) := Lib.hid (by rw [HTK.out, stepM, if_neg (by simp), if_pos rfl, if_neg (by rw [hlg]; simp)])
            clear hlg k1
            go_wp2_with fail
            refine (take_end cd op _ HM1.out).mono ?_
            rintro e W2 ⟨hp, hm2, ht2⟩
            rw [if_neg (by simp)] at hp
            obtain ⟨p, rfl, hp⟩ := hp
            have HM2 := Lib.hid hm2
            have hr2 := HR1.out.turn ht2 fun k hk => hk.imp (fun e => by omega) id
            have HO2 := Lib.hid (HO1.out.trans (ht2.below HS1.out fun k hk => by rcases hk with rfl | hk; exact Nat.le_refl _; have := HS1.out; omega))
            obtain ⟨pa, pc, rfl⟩ := hp.slice
            obtain ⟨pl, hpl⟩ : ∃ pl, pl = S.b.length := ⟨_, rfl⟩
            rw [← hpl] at hp ⊢
            clear hpl
            have hp2 := hp.lower (show s + 1 ≤ W1.heap.size by have := HB1.out.size; have := HSL.out; omega)
            obtain ⟨ra, rc, rfl⟩ := hr2.form
            have hrl : R.length ≤ k := by have := HRM.out; rw [← List.length_map (f := (·.1)), this]; exact hS2
            obtain ⟨rl, hrl'⟩ : ∃ rl, rl = R.length := ⟨_, rfl⟩
            have hraw := hr2.row
            rw [← hrl'] at hraw hrl ⊢
            have HRL := Lib.hid hrl'
            have HR2 := Lib.hid hr2
            have HP2 := Lib.hid hp2
            have hsz2 : s + 1 ≤ W2.heap.size := by have := ht2.size; have := HB1.out.size; have := HSL.out; omega
            have HCL := Lib.hid (rows_cl W2 (.slice pa pl pc))
            have HRF := Lib.hid (fun k e => (World.ownsRow.lt hraw k e).1 : ∀ k, (Value.slice ra rl rc).ownBlock = some k → s + 1 ≤ k)
            clear hm2 ht2 hp hp2 hr2 hrl' b0 b1 b2 b3
            go_wp2_with (at_builtin; refine wpList_append_own _ rfl _ _ 65 rfl (s + 1) 24 i0 (.slice none 0 0) 1 24 Try.underlying65 hi hz0 hz1 hz2 rfl (by decide) _ _ _ rfl (hraw.alloc _) ⟨W2.heap.size, 0, none⟩ 1 1 [.slice pa pl pc] rfl rfl HCL.out (by simp [Value.oneCell']) (by unfold maxLen; omega) (by omega) (by rw [World.size_alloc]; omega) ?_; intro v' w5 hown' hgrow _; replace hgrow : (W2.alloc (.cells #[.slice pa pl pc] 24)).grownBy w5 (Value.slice ra rl rc).ownBlock := hgrow; clear hraw)
            go_roundw
            case rel =>
              have hgr := HR2.out.grown HP2.out (by rw [← HRL.out]; exact hown') (by rw [← HRL.out]; exact hgrow)
              refine ⟨k + 1, m, by omega, by go_num, rfl, ⟨?_, ⟨R ++ [(S.b, .slice pa pl pc)], hgr, by rw [HTK2.out, List.map_append, HRM.out]; rfl⟩, by rw [HTK2.out]; exact HNN.out, ?_⟩⟩
              · rw [HTK2.out]
                refine HM2.out.kept ?_
                have hl := HM2.out.lt
                exact (hgrow.block s (by rw [World.size_alloc]; omega) (fun e => by have := HRF.out s e.symm; omega)).trans (Below.heap_alloc _ _ _ hl)
              · exact (HO2.out.alloc (by omega) _).grown hgrow (by rw [World.size_alloc]; omega) fun r e => by have := HRF.out r e; omega
            case measure => simp [intOf]; omega
          · rw [hlg] at HM1
            have HTK2 : Hid (runM (L.take (k + 1)) = ⟨[], false, S.rs, S.n + 1⟩) := Lib.hid (by rw [HTK.out, stepM, if_neg (by simp), if_pos rfl, if_pos hlg])
            have gw : IntKind.i64.wrap (m + 1) = m + 1 := IntWalk.i64_in _ (by have := HNN.out; omega)
            have hm0 : 0 ≤ m := by have := HNN.out; omega
            have hm1 : m ≤ 200000 := by have := HNN.out; omega
            clear hlg k1
            go_wp2_with fail
            refine (take_end cd op _ HM1.out).mono ?_
            rintro e W2 ⟨hp, hm2, ht2⟩
            rw [if_pos rfl] at hp
            subst hp
            have HM2 := Lib.hid hm2
            have HR2 := Lib.hid (HR1.out.turn ht2 fun k hk => hk.imp (fun e => by omega) id)
            have HO2 := Lib.hid (HO1.out.trans (ht2.below HS1.out fun k hk => by rcases hk with rfl | hk; exact Nat.le_refl _; have := HS1.out; omega))
            clear hm2 ht2 b0 b1 b2 b3
            go_wp2_with fail
            go_roundw
            case rel => exact ⟨k + 1, m + 1, by omega, by go_num, rfl, ⟨by rw [HTK2.out]; exact HM2.out, ⟨R, HR2.out, by rw [HTK2.out]; exact HRM.out⟩, by rw [HTK2.out]; have := HNN.out; simp; omega, HO2.out⟩⟩
            case measure => simp [intOf]; omega
        · have HTK2 : Hid (runM (L.take (k + 1)) = S) := Lib.hid (by rw [HTK.out, stepM, if_neg k1, if_neg k2])
          go_wp2_with fail
          refine (take_other kd cd op _ HM1.out k1 k2).mono ?_
          rintro e W2 ⟨rfl, hm2, ht2⟩
          have HM2 := Lib.hid hm2
          have HR2 := Lib.hid (HR1.out.turn ht2 fun k hk => hk.imp (fun e => by omega) id)
          have HO2 := Lib.hid (HO1.out.trans (ht2.below HS1.out fun k hk => by rcases hk with rfl | hk; exact Nat.le_refl _; have := HS1.out; omega))
          clear hm2 ht2 b0 b1 b2 b3
          go_wp2_with fail
          go_roundw
          case rel => exact ⟨k + 1, m, by omega, by go_num, rfl, ⟨by rw [HTK2.out]; exact HM2.out, ⟨R, HR2.out, by rw [HTK2.out]; exact HRM.out⟩, by rw [HTK2.out]; exact HNN.out, HO2.out⟩⟩
          case measure => simp [intOf]; omega
    · obtain rfl : n = k := by omega
      have htk : L.take n = L := List.take_of_length_le (by rw [← HN.out]; exact Nat.le_refl _)
      obtain ⟨R, hR, hRm⟩ := hA.rows
      have hnn := hA.n
      rw [htk] at hRm hnn
      have HNN := Lib.hid hnn
      have HRR := Lib.hid (hR.lower (Nat.le_succ s))
      have HRM := Lib.hid hRm
      have HO := Lib.hid hA.old
      clear hA HA hR hRm hnn htk hlt
      go_wp2_with fail
      go_ret2
      exact ⟨_, R, by rw [← HNN.out]; rfl, HRR.out, HRM.out, HO.out⟩
end Go.Proofs.Ytimidoaafllnkaa.Rec
