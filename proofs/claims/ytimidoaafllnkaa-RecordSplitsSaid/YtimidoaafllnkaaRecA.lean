/-
  A record's maker in memory: the contracts of Len, Long, Drop, lay.
-/
import Derived.Test.YtimidoaafllnkaaAppRow
import Derived.Laws.CopyOwn
import Derived.Deep.WholeRow
import Derived.Laws.ResultCell
import Derived.Deep.RegionLaw
import Derived.Defers
namespace Go.Proofs.Ytimidoaafllnkaa.Rec
open Go.RowKit Base
set_option linter.unusedVariables false

structure MakC (A : Array Value) (B : List Int) (lg : Bool) : Prop where
  size : A.size = 8194
  cells : ∀ i, i < 8192 → ∃ x : Int, A[i]? = some (.int .u8 x)
  got : ∀ i, i < B.length → A[i]? = some (.int .u8 (B[i]?.getD 0))
  many : A[8192]? = some (.int .i64 B.length)
  long : A[8193]? = some (.bool lg)
  le : B.length ≤ 8192
def MakAt (w : World) (b : Nat) (B : List Int) (lg : Bool) : Prop := ∃ A, w.heap[b]? = some (.cells A 134 (0, 0)) ∧ MakC A B lg
section
variable {A : Array Value} {B : List Int} {lg : Bool}
theorem MakC.drop (h : MakC A B lg) : MakC ((A.setIfInBounds 8192 (.int .i64 0)).setIfInBounds 8193 (.bool false)) [] false := by
  have hs := h.size
  have hs' : (A.setIfInBounds 8192 (.int .i64 0)).size = 8194 := by simpa using hs
  refine ⟨by simpa using hs, fun i hi => ?_, fun i hi => by simp at hi, ?_, ?_, by simp⟩
  · rw [Array.getElem?_setIfInBounds, if_neg (by omega), Array.getElem?_setIfInBounds, if_neg (by omega)]; exact h.cells i hi
  · rw [Array.getElem?_setIfInBounds, if_neg (by omega), Array.getElem?_setIfInBounds, if_pos rfl, if_pos (by omega)]; rfl
  · rw [Array.getElem?_setIfInBounds, if_pos rfl, if_pos (by omega)]
/-- Bytes laid behind. -/
theorem MakC.laid (h : MakC A B lg) (X : List Int) (hX : B.length + X.length ≤ 8192) (l2 : Bool) :
    MakC (((splice A.toList B.length (X.map (Value.int .u8))).toArray.setIfInBounds 8192 (.int .i64 ((B.length : Int) + X.length))).setIfInBounds 8193 (.bool l2)) (B ++ X) l2 := by
  have hs := h.size
  have hcl : (X.map (Value.int .u8)).length = X.length := by simp
  have hfit : B.length + (X.map (Value.int .u8)).length ≤ A.toList.length := by rw [hcl]; simp; omega
  have hsz : (splice A.toList B.length (X.map (Value.int .u8))).toArray.size = 8194 := by rw [List.size_toArray, length_splice _ _ _ hfit]; simpa using hs
  have hsz2 : ((splice A.toList B.length (X.map (Value.int .u8))).toArray.setIfInBounds 8192 (.int .i64 ((B.length : Int) + X.length))).size = 8194 := by simpa using hsz
  have hget : ∀ j, (splice A.toList B.length (X.map (Value.int .u8))).toArray[j]? = if B.length ≤ j ∧ j < B.length + X.length then some (.int .u8 (X[j - B.length]?.getD 0)) else A[j]? := by
    intro j
    rw [List.getElem?_toArray, splice]
    have htk : (A.toList.take B.length).length = B.length := by rw [List.length_take]; simp; omega
    by_cases h1 : j < B.length
    · rw [List.getElem?_append_left (by omega), List.getElem?_take_of_lt h1, if_neg (by omega)]; simp
    · rw [List.getElem?_append_right (by omega), htk]
      by_cases h2 : j < B.length + X.length
      · have h3 : j - B.length < X.length := by omega
        rw [List.getElem?_append_left (by rw [hcl]; exact h3), if_pos ⟨by omega, h2⟩, List.getElem?_map]
        simp [h3]
      · rw [List.getElem?_append_right (by rw [hcl]; omega), if_neg (by omega), List.getElem?_drop, hcl]
        rw [show B.length + X.length + (j - B.length - X.length) = j by omega]
        simp
  refine ⟨by simpa using hsz, fun i hi => ?_, fun i hi => ?_, ?_, ?_, by simp; omega⟩
  · rw [Array.getElem?_setIfInBounds, if_neg (by omega), Array.getElem?_setIfInBounds, if_neg (by omega), hget]
    split
    · exact ⟨_, rfl⟩
    · exact h.cells i hi
  · have hi' : i < B.length + X.length := by simpa using hi
    rw [Array.getElem?_setIfInBounds, if_neg (by omega), Array.getElem?_setIfInBounds, if_neg (by omega), hget]
    by_cases e : i < B.length
    · rw [if_neg (by omega), h.got i e, List.getElem?_append_left e]
    · rw [if_pos ⟨by omega, hi'⟩, List.getElem?_append_right (by omega)]
  · rw [Array.getElem?_setIfInBounds, if_neg (by omega), Array.getElem?_setIfInBounds, if_pos rfl, if_pos (by omega), List.length_append]
    simp
  · rw [Array.getElem?_setIfInBounds, if_pos rfl, if_pos (by omega)]
variable {w w' : World} {b : Nat}
theorem MakAt.lt (h : MakAt w b B lg) : b < w.heap.size := by obtain ⟨A, h, _⟩ := h; exact lt_of_block h
theorem MakAt.kept (h : MakAt w b B lg) (e : w'.heap[b]? = w.heap[b]?) : MakAt w' b B lg := by obtain ⟨A, h, k⟩ := h; exact ⟨A, e.trans h, k⟩
theorem MakAt.turn {T : Nat → Prop} (h : MakAt w b B lg) (t : Turn T w w') (hT : ¬ T b) : MakAt w' b B lg := h.kept (t.block b h.lt hT)
theorem MakAt.below (h : MakAt w b B lg) (t : Below w.heap.size w w') : MakAt w' b B lg := h.kept (t.block b h.lt)
theorem MakAt.drewN (h : MakAt w b B lg) (n : Nat) : MakAt (w.drewN n) b B lg := h.kept rfl
theorem MakAt.le (h : MakAt w b B lg) : B.length ≤ 8192 := by obtain ⟨A, h, k⟩ := h; exact k.le
theorem MakAt.cell (h : MakAt w b B lg) : w.cell? ⟨b, 8192, none⟩ = some (.int .i64 B.length) ∧ w.cell? ⟨b, 8193, none⟩ = some (.bool lg) ∧ ∀ o, w.frozen? ⟨b, o, none⟩ = false := by
  obtain ⟨A, h, k⟩ := h
  exact ⟨by simp [World.cell?, h, k.many], by simp [World.cell?, h, k.long], fun o => by simp [World.frozen?, h]⟩
theorem MakAt.row (h : MakAt w b B lg) (c : Nat) : RowOf .u8 w (.slice (some ⟨b, 0, none⟩) B.length c) B := by
  obtain ⟨A, h, k⟩ := h
  exact ⟨_, c, rfl, fun _ => ⟨b, 0, rfl, fun i hi => by rw [Nat.zero_add]; simp [World.cell?, h, k.got i hi]⟩⟩
theorem MakAt.drop (h : MakAt w b B lg) : MakAt ((w.setCell ⟨b, 8192, none⟩ (.int .i64 0)).setCell ⟨b, 8193, none⟩ (.bool false)) b [] false := by
  obtain ⟨A, h, k⟩ := h; exact ⟨_, heap_set (heap_set h _ _) _ _, k.drop⟩
end
theorem turn_set2 (W : World) (b o o' : Nat) (x y : Value) : Turn (At b) W ((W.setCell ⟨b, o, none⟩ x).setCell ⟨b, o', none⟩ y) := (turn_set W b o x).trans (turn_set _ b o' y)
theorem len_any {w : World} {b : Nat} {B : List Int} {lg : Bool} (h : MakAt w b B lg) : Calls Try.prog 92 #[.pointer (some ⟨b, 0, none⟩)] w fun e w' => e = .returned (.int .i64 B.length) ∧ w = w' := by
  obtain ⟨c0, _, _⟩ := h.cell
  clear h
  go_enter Try.func92, Try.ntmps92
  go_wp2
  go_ret
  exact ⟨rfl, rfl⟩
theorem long_any {w : World} {b : Nat} {B : List Int} {lg : Bool} (h : MakAt w b B lg) : Calls Try.prog 93 #[.pointer (some ⟨b, 0, none⟩)] w fun e w' => e = .returned (.bool lg) ∧ w = w' := by
  obtain ⟨_, c1, _⟩ := h.cell
  clear h
  go_enter Try.func93, Try.ntmps93
  go_wp2
  go_ret
  exact ⟨rfl, rfl⟩
theorem drop_any {w : World} {b : Nat} {B : List Int} {lg : Bool} (h : MakAt w b B lg) : Calls Try.prog 94 #[.pointer (some ⟨b, 0, none⟩)] w fun e w' => e = .returned (.int .i64 B.length) ∧ MakAt w' b [] false ∧ Turn (At b) w w' := by
  obtain ⟨c0, c1, fz⟩ := h.cell
  have f0 := fz 8192
  have f1 := fz 8193
  have H := Lib.hid h
  clear h fz
  go_enter Try.func94, Try.ntmps94
  go_wp2
  go_ret
  exact ⟨rfl, H.out.drop, turn_set2 w b _ _ _ _⟩
theorem turn_setRow (w : World) (b : Nat) (cs : Array Value) : Turn (At b) w (w.setRow b cs) :=
  ⟨rfl, rfl, rfl, by simp [World.setRow], fun k _ hS => setRow_other w b k cs fun e => hS e⟩
/-- The builtin copy of a row of bytes into a block that is known whole, as one step of a region. -/
theorem step_copy8 {ops : Array Oper} {o : Oper} {a : Act} {w : World} {K : Act → World → Prop} {Q : Exit → Act → World → Prop} {E : Prop} (hgd : o.guard = none) (d s : Operand)
    (ho : o.op = .call { callee := .builtin .copy, args := #[d, s], argTypes := #[24, 24] }) (g off dLen dCap : Nat) (p : Nat) (v : Value) (X : List Int)
    (hd : a.eval d = .slice (some ⟨g, p, none⟩) dLen dCap) (hp : 0 < dLen → p = off) (hs : a.eval s = v) (hr : RowOf .u8 w v X) (X' : List Int) (kk : Nat) (hX' : X' = X.take dLen) (hkk : kk = X'.length)
    (cur : List Value) (t : TypeId) (hg : w.heap[g]? = some (.cells cur.toArray t (0, 0))) (hfit : off + dLen ≤ cur.length)
    (h : ∀ w', Hid (w'.heap[g]? = some (.cells (splice cur off (X'.map (Value.int .u8))).toArray t (0, 0))) → Turn (At g) w w' → K (a.put o.dst (goInt kk)) w') :
    if Region.wanted o (yielded ops a.tmps) = true then Oper.wp Try.prog o a w K Q else E := by
  have hw : Region.wanted o (yielded ops a.tmps) = true := by simp [Region.wanted, hgd]
  rw [if_pos hw]
  subst hX' hkk
  have hszu : (Try.prog.info? 5).map (·.size) = some 1 := by kernel_rfl
  have hgen := hr
  obtain ⟨ad, c, rfl, hrow⟩ := hr
  have hlen : (X.take dLen).length = Nat.min X.length dLen := by rw [List.length_take]; exact Nat.min_comm _ _
  by_cases h0 : Nat.min X.length dLen = 0
  · have hrun := run_copy_none (P := Try.prog) w 24 24 o.type 5 (some ⟨g, p, none⟩) ad dLen dCap X.length c Try.underlying24 hszu h0
    unfold Oper.wp
    simp [execOp, ho, resolve, invoke, builtin, hd, hs, hrun, Result.andThen]
    have he : X.take dLen = [] := List.eq_nil_of_length_eq_zero (by rw [hlen]; exact h0)
    rw [he] at h
    exact h w (show _ = _ by simpa [splice] using hg) (Turn.refl _ _)
  · cases ad with
    | none =>
      obtain ⟨e0, _⟩ := hgen.none
      exact absurd (by rw [e0]; exact Nat.zero_min _) h0
    | some sp =>
      obtain ⟨_, hc⟩ := hgen.reads
      have hdl : 0 < dLen := by
        rcases Nat.eq_zero_or_pos dLen with e | e
        · exact absurd (by rw [e]; exact Nat.min_zero _) h0
        · exact e
      obtain rfl := hp hdl
      have hrun := run_copy_row (P := Try.prog) w 24 24 o.type 5 g p dLen dCap sp X.length c cur.toArray t ((X.take dLen).map (Value.int .u8)) Try.underlying24 hszu hg (by rw [List.length_map, hlen])
        (fun j u hu => hc j u (by
          rw [List.getElem?_map] at hu ⊢
          have hj := (List.getElem?_eq_some_iff.1 (Option.map_eq_some_iff.1 hu).choose_spec.1).1
          rw [List.length_take] at hj
          rw [List.getElem?_take_of_lt (by omega)] at hu
          exact hu)) (by rw [List.length_map, List.length_take]; simp; omega) (bytes_one _)
      unfold Oper.wp
      simp only [List.length_map] at hrun
      simp only [execOp, ho, resolve, invoke, builtin, Sem.run_bind, Sem.run_pure, List.map_toArray, List.map_cons, List.map_nil, hd, hs, hrun, Result.andThen]
      refine h _ (show _ = _ from ?_) (turn_setRow w g _)
      simpa [splice] using setRow_heap w g _ _ t _ hg
theorem splice_at (A : Array Value) (off : Nat) (cs : List Value) (j : Nat) (hfit : off + cs.length ≤ A.size) (hj : off + cs.length ≤ j) : (splice A.toList off cs).toArray[j]? = A[j]? := by
  rw [List.getElem?_toArray, splice]
  have htk : (A.toList.take off).length = off := by rw [List.length_take]; simp; omega
  rw [List.getElem?_append_right (by omega), htk, List.getElem?_append_right (by omega), List.getElem?_drop]
  rw [show off + cs.length + (j - off - cs.length) = j by omega]
  simp
set_option maxRecDepth 100000 in
set_option maxHeartbeats 4000000 in
theorem lay_any {w : World} {b : Nat} {B : List Int} {lg : Bool} (v : Value) (X : List Int) (h : MakAt w b B lg) (hr : RowOf .u8 w v X) (hl : X.length ≤ 1000000) :
    Calls Try.prog 115 #[.pointer (some ⟨b, 0, none⟩), v] w fun e w' => e = .returned (.tuple #[]) ∧ MakAt w' b (B ++ X.take (8192 - B.length)) (lg || decide (8192 - B.length < X.length)) ∧ Turn (At b) w w' := by
  obtain ⟨c0, _, fz⟩ := h.cell
  have hle := h.le
  obtain ⟨A, hA, hC⟩ := h
  obtain ⟨m, hm⟩ : ∃ m, m = B.length := ⟨_, rfl⟩
  obtain ⟨X', hX'⟩ : ∃ X', X' = X.take (8192 - m) := ⟨_, rfl⟩
  obtain ⟨k, hk⟩ : ∃ k, k = X'.length := ⟨_, rfl⟩
  have hkm : k = min X.length (8192 - m) := by rw [hk, hX', List.length_take, Nat.min_comm]
  obtain ⟨n, hn⟩ : ∃ n, n = X.length := ⟨_, rfl⟩
  rw [← hm, ← hX', ← hn]
  rw [← hm] at c0 hle
  rw [← hn] at hkm hl
  have hkm1 : m + k ≤ 8192 := by omega
  have hkm2 : k ≤ n := by omega
  have HB : Hid (∀ (W : World), W.heap[b]? = some (.cells (splice A.toList m (X'.map (Value.int .u8))).toArray 134 (0, 0)) → W.cell? ⟨b, 8192, none⟩ = some (.int .i64 m) ∧ W.cell? ⟨b, 8193, none⟩ = some (.bool lg) ∧ W.frozen? ⟨b, 8192, none⟩ = false ∧ W.frozen? ⟨b, 8193, none⟩ = false ∧ ∀ l2, MakAt ((W.setCell ⟨b, 8192, none⟩ (.int .i64 ((m : Int) + k))).setCell ⟨b, 8193, none⟩ (.bool l2)) b (B ++ X') l2) := Lib.hid (fun W hW => by
    have hcl : (X'.map (Value.int .u8)).length = k := by rw [List.length_map, ← hk]
    have e1 := splice_at A m (X'.map (Value.int .u8)) 8192 (by rw [hcl, hC.size]; omega) (by rw [hcl]; omega)
    have e2 := splice_at A m (X'.map (Value.int .u8)) 8193 (by rw [hcl, hC.size]; omega) (by rw [hcl]; omega)
    rw [hC.many, ← hm] at e1
    rw [hC.long] at e2
    refine ⟨?_, ?_, by simp [World.frozen?, hW], by simp [World.frozen?, hW], fun l2 => ?_⟩
    · simp only [World.cell?, hW]; exact e1
    · simp only [World.cell?, hW]; exact e2
    · have hl2 := hC.laid X' (by rw [← hm, ← hk]; exact hkm1) l2
      rw [← hm, ← hk] at hl2
      exact ⟨_, heap_set (heap_set hW _ _) _ _, hl2⟩)
  have HA : Hid (w.drew.heap[b]? = some (.cells A.toList.toArray 134 (0, 0))) := Lib.hid (show w.heap[b]? = _ by simpa using hA)
  have HSZ : Hid (A.toList.length = 8194) := Lib.hid (by simpa using hC.size)
  have HR := Lib.hid (show RowOf .u8 w.drew v X from hr.kept fun _ _ _ h => h)
  have HX := Lib.hid hX'
  have HK := Lib.hid hk
  have gm0 : (0 : Int) ≤ (m : Int) := by omega
  have gm : (m : Int) ≤ 8192 := by omega
  have gw : IntKind.i64.wrap ((m : Int) + (k : Int)) = (m : Int) + (k : Int) := IntWalk.i64_in _ (by omega)
  have HKN : Hid (decide (8192 - m < n) = decide (k < n)) := Lib.hid (by rw [decide_eq_decide]; omega)
  obtain ⟨av, cv, rfl, _⟩ := hr
  rw [← hn] at HR ⊢
  clear hA hC hm hX' hk hkm hn fz
  by_cases hfull : m = 8192
  · subst hfull
    have gw8 : IntKind.i64.wrap (8192 + (k : Int)) = 8192 + (k : Int) := IntWalk.i64_in _ (by omega)
    go_enter Try.func115, Try.ntmps115
    go_upto_region 0 with fail
    go_region_law (refine step_copy8 (by rfl) (.tmp 12) (.tmp 13) (by rfl) b 8192 0 0 0 (.slice av n cv) X (by simp [Act.eval, Act.put]) (fun h => absurd h (by omega)) (by simp [Act.eval, Act.put]) HR.out X' k HX.out HK.out A.toList 134 HA.out (by rw [HSZ.out]; omega) ?_; intro w2 hw2 ht2)
    obtain ⟨c65, c66, f65, f66, hfin⟩ := HB.out w2 hw2
    have HFIN := Lib.hid hfin
    have HT := Lib.hid ht2
    clear hw2 ht2 hfin c0
    by_cases hkn : k < n
    · have hkn' : (k : Int) < (n : Int) := by omega
      have HD := Lib.hid (decide_eq_true hkn)
      clear hkn
      cases lg
      all_goals
        go_wp2
        refine bodyPost_end (results_none rfl _ _ _) rfl ?_
        refine ⟨rfl, ?_, ((⟨rfl, rfl, rfl, Nat.le_refl _, fun _ _ _ => rfl⟩ : Turn (At b) w w.drew).trans HT.out).trans (turn_set2 _ b _ _ _ _)⟩
        rw [HKN.out, HD.out]
        exact HFIN.out true
    · have hkn' : (n : Int) ≤ (k : Int) := by omega
      have HD := Lib.hid (decide_eq_false hkn)
      clear hkn
      cases lg
      all_goals
        go_wp2
        refine bodyPost_end (results_none rfl _ _ _) rfl ?_
        refine ⟨rfl, ?_, ((⟨rfl, rfl, rfl, Nat.le_refl _, fun _ _ _ => rfl⟩ : Turn (At b) w w.drew).trans HT.out).trans (turn_set2 _ b _ _ _ _)⟩
        rw [HKN.out, HD.out]
        exact HFIN.out _
  · have hf1 : (m : Int) < 8192 := by omega
    have hf2 : ¬ 8192 = m := by omega
    go_enter Try.func115, Try.ntmps115
    go_upto_region 0 with fail
    go_region_law (refine step_copy8 (by rfl) (.tmp 12) (.tmp 13) (by rfl) b m (8192 - m) (8192 - m) m (.slice av n cv) X (by simp [Act.eval, Act.put]) (fun _ => rfl) (by simp [Act.eval, Act.put]) HR.out X' k HX.out HK.out A.toList 134 HA.out (by rw [HSZ.out]; omega) ?_; intro w2 hw2 ht2)
    obtain ⟨c65, c66, f65, f66, hfin⟩ := HB.out w2 hw2
    have HFIN := Lib.hid hfin
    have HT := Lib.hid ht2
    clear hw2 ht2 hfin c0
    by_cases hkn : k < n
    · have hkn' : (k : Int) < (n : Int) := by omega
      have HD := Lib.hid (decide_eq_true hkn)
      clear hkn
      cases lg
      all_goals
        go_wp2
        refine bodyPost_end (results_none rfl _ _ _) rfl ?_
        refine ⟨rfl, ?_, ((⟨rfl, rfl, rfl, Nat.le_refl _, fun _ _ _ => rfl⟩ : Turn (At b) w w.drew).trans HT.out).trans (turn_set2 _ b _ _ _ _)⟩
        rw [HKN.out, HD.out]
        exact HFIN.out true
    · have hkn' : (n : Int) ≤ (k : Int) := by omega
      have HD := Lib.hid (decide_eq_false hkn)
      clear hkn
      cases lg
      all_goals
        go_wp2
        refine bodyPost_end (results_none rfl _ _ _) rfl ?_
        refine ⟨rfl, ?_, ((⟨rfl, rfl, rfl, Nat.le_refl _, fun _ _ _ => rfl⟩ : Turn (At b) w w.drew).trans HT.out).trans (turn_set2 _ b _ _ _ _)⟩
        rw [HKN.out, HD.out]
        exact HFIN.out _
end Go.Proofs.Ytimidoaafllnkaa.Rec
