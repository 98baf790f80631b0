/-
  A counter in memory: the contracts of Index, remove, Got, Pending and Next.
-/
import Derived.Test.YtfijcdidcnfadaaHeadA
import Derived.Laws.CopyOwn
namespace Go.Proofs.Ytfijcdidcnfadaa.Head
open Go.RowKit Base
set_option linter.unusedVariables false

structure CntC (A : Array Value) (nx : Int) (P : List Int) : Prop where
  size : A.size = 66
  nx : A[0]? = some (.int .u16 nx)
  cells : ∀ i, i < 64 → ∃ x : Int, A[1 + i]? = some (.int .u16 x)
  got : ∀ i, i < P.length → A[1 + i]? = some (.int .u16 (P[i]?.getD 0))
  many : A[65]? = some (.int .i64 P.length)
  le : P.length ≤ 64
def CntAt (w : World) (b : Nat) (nx : Int) (P : List Int) : Prop := ∃ A, w.heap[b]? = some (.cells A 50 (0, 0)) ∧ CntC A nx P
section
variable {A : Array Value} {nx : Int} {P : List Int}
theorem CntC.setNext (h : CntC A nx P) (n : Int) : CntC (A.setIfInBounds 0 (.int .u16 n)) n P := by
  have hs := h.size
  refine ⟨by simpa using hs, ?_, fun i hi => ?_, fun i hi => ?_, ?_, h.le⟩
  · rw [Array.getElem?_setIfInBounds, if_pos rfl, if_pos (by omega)]
  · rw [Array.getElem?_setIfInBounds, if_neg (by omega)]; exact h.cells i hi
  · rw [Array.getElem?_setIfInBounds, if_neg (by omega)]; exact h.got i hi
  · rw [Array.getElem?_setIfInBounds, if_neg (by omega)]; exact h.many
theorem CntC.push (h : CntC A nx P) (x : Int) (hl : P.length < 64) : CntC ((A.setIfInBounds (1 + P.length) (.int .u16 x)).setIfInBounds 65 (.int .i64 ((P.length : Int) + 1))) nx (P ++ [x]) := by
  have hs := h.size
  have hs' : (A.setIfInBounds (1 + P.length) (.int .u16 x)).size = 66 := by simpa using hs
  refine ⟨by simpa using hs, ?_, fun i hi => ?_, fun i hi => ?_, ?_, by simp; omega⟩
  · rw [Array.getElem?_setIfInBounds, if_neg (by omega), Array.getElem?_setIfInBounds, if_neg (by omega)]; exact h.nx
  · rw [Array.getElem?_setIfInBounds, if_neg (by omega), Array.getElem?_setIfInBounds]
    by_cases e : 1 + P.length = 1 + i
    · rw [if_pos e, if_pos (by omega)]; exact ⟨_, rfl⟩
    · rw [if_neg e]; exact h.cells i hi
  · have hi' : i < P.length + 1 := by simpa using hi
    rw [Array.getElem?_setIfInBounds, if_neg (by omega), Array.getElem?_setIfInBounds]
    by_cases e : 1 + P.length = 1 + i
    · rw [if_pos e, if_pos (by omega)]
      obtain rfl : i = P.length := by omega
      simp
    · rw [if_neg e, h.got i (by omega), List.getElem?_append_left (by omega)]
  · rw [Array.getElem?_setIfInBounds, if_pos rfl, if_pos (by omega)]; simp
/-- The cells moved one place back, from a place on. -/
theorem moved_size (h : CntC A nx P) (k : Nat) (hk : k < P.length) : (splice A.toList (1 + k) ((P.drop (k + 1)).map (Value.int .u16))).toArray.size = 66 := by
  have hs := h.size
  have hle := h.le
  have hcl : ((P.drop (k + 1)).map (Value.int .u16)).length = P.length - (k + 1) := by rw [List.length_map, List.length_drop]
  have hfit : 1 + k + ((P.drop (k + 1)).map (Value.int .u16)).length ≤ A.toList.length := by rw [hcl]; simp; omega
  rw [List.size_toArray, length_splice _ _ _ hfit]; simpa using hs
theorem moved_get (h : CntC A nx P) (k : Nat) (hk : k < P.length) (j : Nat) : (splice A.toList (1 + k) ((P.drop (k + 1)).map (Value.int .u16))).toArray[j]? = if 1 + k ≤ j ∧ j < P.length then some (.int .u16 (P[j]?.getD 0)) else A[j]? := by
  have hs := h.size
  have hle := h.le
  have hcl : ((P.drop (k + 1)).map (Value.int .u16)).length = P.length - (k + 1) := by rw [List.length_map, List.length_drop]
  rw [List.getElem?_toArray, splice]
  have htk : (A.toList.take (1 + k)).length = 1 + k := by rw [List.length_take]; simp; omega
  by_cases h1 : j < 1 + k
  · rw [List.getElem?_append_left (by omega), List.getElem?_take_of_lt h1, if_neg (by omega)]; simp
  · rw [List.getElem?_append_right (by omega), htk]
    by_cases h2 : j < P.length
    · rw [List.getElem?_append_left (by omega), if_pos ⟨by omega, h2⟩, List.getElem?_map, List.getElem?_drop, show k + 1 + (j - (1 + k)) = j by omega]
      simp [h2]
    · rw [List.getElem?_append_right (by omega), if_neg (by omega), List.getElem?_drop, hcl]
      rw [show 1 + k + (P.length - (k + 1)) + (j - (1 + k) - (P.length - (k + 1))) = j by omega]
      simp
theorem CntC.moved (h : CntC A nx P) (k : Nat) (hk : k < P.length) (x : Value) (hx : x = .int .i64 ((P.length : Int) - 1)) :
    CntC ((splice A.toList (1 + k) ((P.drop (k + 1)).map (Value.int .u16))).toArray.setIfInBounds 65 x) nx (P.eraseIdx k) := by
  have hs := h.size
  have hle := h.le
  have hsz := moved_size h k hk
  have hget := moved_get h k hk
  have hel : (P.eraseIdx k).length = P.length - 1 := by rw [List.length_eraseIdx, if_pos hk]
  refine ⟨by simpa using hsz, ?_, fun i hi => ?_, fun i hi => ?_, ?_, by rw [hel]; omega⟩
  · rw [Array.getElem?_setIfInBounds, if_neg (by omega), hget, if_neg (by omega)]; exact h.nx
  · rw [Array.getElem?_setIfInBounds, if_neg (by omega), hget]
    split
    · exact ⟨_, rfl⟩
    · exact h.cells i hi
  · rw [Array.getElem?_setIfInBounds, if_neg (by omega), hget]
    rw [List.getElem?_eraseIdx]
    by_cases e : i < k
    · rw [if_neg (by omega), if_pos e]; exact h.got i (by omega)
    · rw [if_neg e]
      by_cases e2 : 1 + i < P.length
      · rw [if_pos (by omega), show 1 + i = i + 1 by omega]
      · omega
  · rw [Array.getElem?_setIfInBounds, if_pos rfl, if_pos (by omega), hx, hel]
    congr 2
    omega
variable {w w' : World} {b : Nat}
theorem CntAt.lt (h : CntAt w b nx P) : b < w.heap.size := by obtain ⟨A, h, _⟩ := h; exact lt_of_block h
theorem CntAt.kept (h : CntAt w b nx P) (e : w'.heap[b]? = w.heap[b]?) : CntAt w' b nx P := by obtain ⟨A, h, k⟩ := h; exact ⟨A, e.trans h, k⟩
theorem CntAt.turn {T : Nat → Prop} (h : CntAt w b nx P) (t : Turn T w w') (hT : ¬ T b) : CntAt w' b nx P := h.kept (t.block b h.lt hT)
theorem CntAt.below (h : CntAt w b nx P) (t : Below w.heap.size w w') : CntAt w' b nx P := h.kept (t.block b h.lt)
theorem CntAt.drewN (h : CntAt w b nx P) (n : Nat) : CntAt (w.drewN n) b nx P := h.kept rfl
theorem CntAt.le (h : CntAt w b nx P) : P.length ≤ 64 := by obtain ⟨A, h, k⟩ := h; exact k.le
theorem CntAt.cell (h : CntAt w b nx P) : w.cell? ⟨b, 0, none⟩ = some (.int .u16 nx) ∧ w.cell? ⟨b, 65, none⟩ = some (.int .i64 P.length) ∧ ∀ o, w.frozen? ⟨b, o, none⟩ = false := by
  obtain ⟨A, h, k⟩ := h
  exact ⟨by simp [World.cell?, h, k.nx], by simp [World.cell?, h, k.many], fun o => by simp [World.frozen?, h]⟩
theorem CntAt.byteCell (h : CntAt w b nx P) (i : Nat) (hi : i < 64) : ∃ x : Int, w.cell? ⟨b, 1 + i, none⟩ = some (.int .u16 x) := by
  obtain ⟨A, h, k⟩ := h
  obtain ⟨x, hx⟩ := k.cells i hi
  exact ⟨x, by simp [World.cell?, h, hx]⟩
theorem CntAt.got (h : CntAt w b nx P) (i : Nat) (hi : i < P.length) : w.cell? ⟨b, 1 + i, none⟩ = some (.int .u16 (P[i]?.getD 0)) := by
  obtain ⟨A, h, k⟩ := h
  simp [World.cell?, h, k.got i hi]
theorem CntAt.setNext (h : CntAt w b nx P) (n : Int) : CntAt (w.setCell ⟨b, 0, none⟩ (.int .u16 n)) b n P := by
  obtain ⟨A, h, k⟩ := h; exact ⟨_, heap_set h _ _, k.setNext n⟩
theorem CntAt.push (h : CntAt w b nx P) (x : Int) (hl : P.length < 64) : CntAt ((w.setCell ⟨b, 1 + P.length, none⟩ (.int .u16 x)).setCell ⟨b, 65, none⟩ (.int .i64 ((P.length : Int) + 1))) b nx (P ++ [x]) := by
  obtain ⟨A, h, k⟩ := h; exact ⟨_, heap_set (heap_set h _ _) _ _, k.push x hl⟩
end
/-- The first place of a number. -/
def idxL (P : List Int) (x : Int) : Int := if x ∈ P then (P.idxOf x : Int) else -1
theorem idx_here (P : List Int) (x : Int) (k : Nat) (hk : k < P.length) (hno : x ∉ P.take k) (hx : x = P[k]?.getD 0) : idxL P x = k := by
  have e : P[k] = x := by rw [hx]; simp [hk]
  have hm : x ∈ P := by rw [← e]; exact List.getElem_mem hk
  have hsplit : P = P.take k ++ x :: P.drop (k + 1) := by rw [← e, List.getElem_cons_drop, List.take_append_drop]
  unfold idxL
  rw [if_pos hm]
  have : P.idxOf x = k := by
    rw [hsplit, List.idxOf_append, if_neg hno, List.idxOf_cons_self, List.length_take]
    omega
  rw [this]
set_option maxRecDepth 100000 in
theorem index_any (b off cap n : Nat) (P : List Int) (x : Int) (w : World) (hn : n = P.length) (hm : P.length ≤ 64) (hc : ∀ i, i < P.length → w.cell? ⟨b, off + i, none⟩ = some (.int .u16 (P[i]?.getD 0))) :
    Calls Try.prog 73 #[.slice (some ⟨b, off, none⟩) n cap, .int .u16 x] w fun e w' => e = .returned (.int .i64 (idxL P x)) ∧ w = w' := by
  have HN := Lib.hid hn
  have HC := Lib.hid hc
  rw [← hn] at hm
  clear hn hc
  obtain ⟨r, hr⟩ : ∃ r, r = idxL P x := ⟨_, rfl⟩
  have HR := Lib.hid hr
  rw [← hr]
  clear hr
  go_enter Try.func73, Try.ntmps73
  go_wp2
  go_loop [8] (fun i => ∃ k : Nat, k ≤ n ∧ i = .int .i64 k ∧ Hid (x ∉ P.take k)) (fun i => n - (intOf i).toNat)
  case atStart => exact ⟨0, by omega, rfl, fun h => by simp at h⟩
  case round =>
    obtain ⟨k, hk, rfl, hno⟩ := hrel
    by_cases hkn : k < n
    · have d1 := HC.out k (by rw [← HN.out]; exact hkn)
      obtain ⟨y, hy⟩ : ∃ y, y = P[k]?.getD 0 := ⟨_, rfl⟩
      rw [← hy] at d1
      have HY := Lib.hid hy
      have hkn' : (k : Int) < (n : Int) := by omega
      clear hy
      by_cases hxy : x = y
      · have ht : (x == y) = true := by simpa using hxy
        have HXY := Lib.hid hxy
        clear hxy
        go_wp2
        go_ret
        exact ⟨by rw [HR.out, idx_here P x k (by rw [← HN.out]; exact hkn) hno.out (by rw [← HY.out]; exact HXY.out)]; rfl, rfl⟩
      · have ht : (x == y) = false := by simpa using hxy
        have HXY := Lib.hid hxy
        clear hxy
        go_wp2
        go_round
        case rel =>
          refine ⟨k + 1, by omega, by go_num, fun h => ?_⟩
          rw [List.take_succ_eq_append_getElem (by rw [← HN.out]; exact hkn)] at h
          rcases List.mem_append.1 h with h | h
          · exact hno.out h
          · have hkl : k < P.length := by rw [← HN.out]; exact hkn
            rw [List.mem_singleton] at h
            apply HXY.out
            rw [HY.out, h]
            simp [hkl]
        case measure => simp [intOf]; omega
    · obtain rfl : n = k := by omega
      go_wp2
      go_ret
      refine ⟨?_, rfl⟩
      have := hno.out
      rw [List.take_of_length_le (by rw [← HN.out]; exact Nat.le_refl _)] at this
      rw [HR.out, idxL, if_neg this]
      rfl
theorem turn_setRow (w : World) (b : Nat) (cs : Array Value) : Turn (At b) w (w.setRow b cs) :=
  ⟨rfl, rfl, rfl, by simp [World.setRow], fun k _ hS => setRow_other w b k cs fun e => hS e⟩
/-- The builtin copy, within a block that is known whole, as one step of a region. -/
theorem step_copy16 {ops : Array Oper} {o : Oper} {a : Act} {w : World} {K : Act → World → Prop} {Q : Exit → Act → World → Prop} {E : Prop} (hgd : o.guard = none) (d s : Operand)
    (ho : o.op = .call { callee := .builtin .copy, args := #[d, s], argTypes := #[131, 131] }) (g off dLen dCap : Nat) (sp : Addr) (sLen sCap : Nat) (cs : List Value)
    (hd : a.eval d = .slice (some ⟨g, off, none⟩) dLen dCap) (hs : a.eval s = .slice (some sp) sLen sCap)
    (cur : List Value) (t : TypeId) (hg : w.heap[g]? = some (.cells cur.toArray t (0, 0))) (hn : cs.length = Nat.min sLen dLen)
    (hsrc : ∀ j v, cs[j]? = some v → w.cell? (sp.add j) = some v) (hfit : off + cs.length ≤ cur.length) (h1 : ∀ v ∈ cs, v.oneCell' = true)
    (h : ∀ w', Hid (w'.heap[g]? = some (.cells (splice cur off cs).toArray t (0, 0))) → Turn (At g) w w' → K (a.put o.dst (goInt cs.length)) w') :
    if Region.wanted o (yielded ops a.tmps) = true then Oper.wp Try.prog o a w K Q else E := by
  have hw : Region.wanted o (yielded ops a.tmps) = true := by simp [Region.wanted, hgd]
  rw [if_pos hw]
  have hrun := run_copy_row (P := Try.prog) w 131 131 o.type 23 g off dLen dCap sp sLen sCap cur.toArray t cs Try.underlying131 (by kernel_rfl) hg hn hsrc (by simpa using hfit) h1
  unfold Oper.wp
  simp [execOp, ho, resolve, invoke, builtin, hd, hs, hrun, Result.andThen]
  refine h _ (show _ = _ from ?_) (turn_setRow w g _)
  simpa [splice] using setRow_heap w g _ _ t _ hg
set_option maxRecDepth 100000 in
set_option maxHeartbeats 2000000 in
theorem remove_any {w : World} {b : Nat} {nx : Int} {P : List Int} (k : Nat) (h : CntAt w b nx P) (hk : k < P.length) :
    Calls Try.prog 72 #[.pointer (some ⟨b, 0, none⟩), .int .i64 k] w fun e w' => e = .returned (.tuple #[]) ∧ CntAt w' b nx (P.eraseIdx k) ∧ Turn (At b) w w' := by
  obtain ⟨c0, c65, fz⟩ := h.cell
  have hle := h.le
  obtain ⟨A, hA, hC⟩ := h
  obtain ⟨n, hn⟩ : ∃ n, n = P.length := ⟨_, rfl⟩
  rw [← hn] at c65 hk hle
  have HN := Lib.hid hn
  have HC := Lib.hid hC
  have HF := Lib.hid fz
  have HA : Hid (w.drew.heap[b]? = some (.cells A.toList.toArray 50 (0, 0))) := Lib.hid (show w.heap[b]? = _ by simpa using hA)
  have HSR : Hid (∀ j v, ((P.drop (k + 1)).map (Value.int .u16))[j]? = some v → w.drew.cell? ((⟨b, 1 + (k + 1), none⟩ : Addr).add j) = some v) := Lib.hid (fun j v hv => by
    have hl := (List.getElem?_eq_some_iff.1 hv).1
    rw [List.length_map, List.length_drop] at hl
    rw [add_off]
    have := hC.got (k + 1 + j) (by omega)
    rw [List.getElem?_map, List.getElem?_drop] at hv
    have hv' : Value.int .u16 (P[k + 1 + j]?.getD 0) = v := by
      rw [List.getElem?_eq_getElem (by omega)] at hv ⊢
      simpa using hv
    show w.cell? _ = _
    rw [show 1 + (k + 1) + j = 1 + (k + 1 + j) by omega, ← hv']
    simp [World.cell?, hA, this])
  have HLC : Hid (((P.drop (k + 1)).map (Value.int .u16)).length = n - (k + 1)) := Lib.hid (by rw [List.length_map, List.length_drop, ← hn])
  have HSZ : Hid (A.toList.length = 66) := Lib.hid (by simpa using hC.size)
  have ho1 : Hid (∀ v ∈ (P.drop (k + 1)).map (Value.int .u16), v.oneCell' = true) := Lib.hid (by
    intro v hv
    obtain ⟨x, _, rfl⟩ := List.mem_map.1 hv
    rfl)
  have gk0 : (0 : Int) ≤ (k : Int) := by omega
  have gk : (k : Int) ≤ 64 := by omega
  have gkn : (k : Int) + 1 ≤ (n : Int) := by omega
  have gn : (n : Int) ≤ 64 := by omega
  have gw : IntKind.i64.wrap ((k : Int) + 1) = (k : Int) + 1 := IntWalk.i64_in _ (by omega)
  have gt : ((k : Int) + 1).toNat = k + 1 := by omega
  have g64 : ¬ 64 = k := by omega
  have gk1 : (0 : Int) ≤ (k : Int) + 1 := by omega
  have gk2 : (k : Int) + 1 ≤ 64 := by omega
  clear hn hA hC fz c0
  have HM : Hid (∀ (W : World), W.heap[b]? = some (.cells (splice A.toList (1 + k) ((P.drop (k + 1)).map (Value.int .u16))).toArray 50 (0, 0)) → W.cell? ⟨b, 65, none⟩ = some (.int .i64 n) ∧ W.frozen? ⟨b, 65, none⟩ = false ∧ CntAt (W.setCell ⟨b, 65, none⟩ (.int .i64 ((n : Int) - 1))) b nx (P.eraseIdx k)) := Lib.hid (fun W hW => by
    have hk' : k < P.length := by rw [← HN.out]; exact hk
    refine ⟨?_, by simp [World.frozen?, hW], _, heap_set hW 65 _, HC.out.moved k hk' _ (by rw [HN.out])⟩
    have := moved_get HC.out k hk' 65
    rw [if_neg (by rw [← HN.out]; omega), HC.out.many, ← HN.out] at this
    simp only [World.cell?, hW]
    exact this)
  by_cases h63 : k = 63
  · subst h63
    obtain rfl : n = 64 := by omega
    have hd : P.drop (63 + 1) = [] := List.drop_eq_nil_of_le (by rw [← HN.out]; exact Nat.le_refl _)
    rw [hd] at HSR HLC ho1 HM
    have gw : IntKind.i64.wrap 64 = 64 := by decide
    go_enter Try.func72, Try.ntmps72
    go_upto_region 0 with fail
    go_region_law (refine step_copy16 (by rfl) (.tmp 8) (.tmp 18) (by rfl) b (1 + 63) 1 1 ⟨b, 1, none⟩ 0 0 [] (by simp [Act.eval, Act.put]) (by simp [Act.eval, Act.put]) A.toList 50 HA.out (by simp) (fun j v h => by simp at h) (by rw [HSZ.out]; simp) (fun v h => by simp at h) ?_; intro w2 hw2 ht2)
    obtain ⟨m1, m2, m3⟩ := HM.out w2 hw2
    have H3 := Lib.hid m3
    have HT := Lib.hid ht2
    clear m3 ht2 hw2
    go_wp2
    refine bodyPost_end (results_none rfl _ _ _) rfl ?_
    exact ⟨rfl, H3.out, ((⟨rfl, rfl, rfl, Nat.le_refl _, fun _ _ _ => rfl⟩ : Turn (At b) w w.drew).trans HT.out).trans (turn_set _ b _ _)⟩
  · have h63' : ¬ 64 = k + 1 := by omega
    go_enter Try.func72, Try.ntmps72
    go_upto_region 0 with fail
    go_region_law (refine step_copy16 (by rfl) (.tmp 8) (.tmp 18) (by rfl) b (1 + k) (64 - k) (64 - k) ⟨b, 1 + (k + 1), none⟩ (n - (k + 1)) (64 - (k + 1)) ((P.drop (k + 1)).map (Value.int .u16)) (by simp [Act.eval, Act.put]) (by simp [Act.eval, Act.put]) A.toList 50 HA.out (by rw [HLC.out]; exact (Nat.min_eq_left (by omega)).symm) HSR.out (by rw [HLC.out, HSZ.out]; omega) ho1.out ?_; intro w2 hw2 ht2)
    obtain ⟨m1, m2, m3⟩ := HM.out w2 hw2.out
    have H3 := Lib.hid m3
    have HT := Lib.hid ht2
    clear m3 ht2 hw2
    go_wp2
    refine bodyPost_end (results_none rfl _ _ _) rfl ?_
    exact ⟨rfl, H3.out, ((⟨rfl, rfl, rfl, Nat.le_refl _, fun _ _ _ => rfl⟩ : Turn (At b) w w.drew).trans HT.out).trans (turn_set _ b _ _)⟩
theorem idx_yes (P : List Int) (x : Int) (h : x ∈ P) : ∃ k, k < P.length ∧ idxL P x = (k : Int) ∧ P.eraseIdx k = P.erase x := by
  refine ⟨P.idxOf x, List.idxOf_lt_length_iff.2 h, by unfold idxL; rw [if_pos h], ?_⟩
  rw [List.erase_eq_eraseIdx_of_idxOf rfl]
theorem Turn.drew1 (b : Nat) (w : World) (n : Nat) : Turn (At b) w (w.drewN n) := ⟨rfl, rfl, rfl, Nat.le_refl _, fun _ _ _ => rfl⟩
set_option maxRecDepth 100000 in
set_option maxHeartbeats 2000000 in
theorem got_any {w : World} {b : Nat} {nx : Int} {P : List Int} (x : Int) (h : CntAt w b nx P) :
    Calls Try.prog 29 #[.pointer (some ⟨b, 0, none⟩), .int .u16 x] w fun e w' => e = .returned (.bool (decide (x ∈ P))) ∧ CntAt w' b nx (P.erase x) ∧ Turn (At b) w w' := by
  obtain ⟨_, c65, _⟩ := h.cell
  have hle := h.le
  obtain ⟨n, hn⟩ : ∃ n, n = P.length := ⟨_, rfl⟩
  rw [← hn] at c65 hle
  have HI : ∀ m, Calls Try.prog 73 #[.slice (some ⟨b, 1, none⟩) n 64, .int .u16 x] (w.drewN m) fun e w' => e = .returned (.int .i64 (idxL P x)) ∧ ∃ m, w' = w.drewN m := fun m =>
    (index_any b 1 64 n P x (w.drewN m) hn (by rw [← hn]; exact hle) fun i hi => h.got i hi).mono fun e w' ⟨h1, h2⟩ => ⟨h1, m, h2.symm⟩
  have gn : (n : Int) ≤ 64 := by omega
  have H := Lib.hid h
  have HN := Lib.hid hn
  by_cases hx : x ∈ P
  · obtain ⟨k, hk, hik, hek⟩ := idx_yes P x hx
    rw [decide_eq_true hx, ← hek]
    rw [hik] at HI
    have HI := Lib.hid HI
    have gk : (0 : Int) ≤ (k : Int) := by omega
    have HK := Lib.hid hk
    clear h hn hik hek hx hk
    go_enter Try.func29, Try.ntmps29
    go_wp2_with fail
    go_quiet ((go_at_call 73; exact HI.out _))
    go_wp2_with fail
    refine (remove_any k (H.out.drewN _) HK.out).mono ?_
    rintro e w2 ⟨rfl, h2, t2⟩
    have H2 := Lib.hid h2
    have T2 := Lib.hid t2
    clear h2 t2
    go_wp2_with fail
    go_ret
    exact ⟨rfl, H2.out, (Turn.drew1 b w _).trans T2.out⟩
  · rw [decide_eq_false hx, List.erase_of_not_mem hx]
    have hi : idxL P x = -1 := by unfold idxL; rw [if_neg hx]
    rw [hi] at HI
    have HI := Lib.hid HI
    clear h hn hx hi
    go_enter Try.func29, Try.ntmps29
    go_wp2_with fail
    go_quiet ((go_at_call 73; exact HI.out _))
    go_wp2_with fail
    go_ret
    exact ⟨rfl, H.out.drewN _, Turn.drew1 b w _⟩
theorem pending_any {w : World} {b : Nat} {nx : Int} {P : List Int} (h : CntAt w b nx P) :
    Calls Try.prog 31 #[.pointer (some ⟨b, 0, none⟩)] w fun e w' => e = .returned (.int .i64 P.length) ∧ w = w' := by
  obtain ⟨_, c65, _⟩ := h.cell
  clear h
  go_enter Try.func31, Try.ntmps31
  go_wp2
  go_ret
  exact ⟨rfl, rfl⟩
/-- Those that wait behind a number that is given. -/
def giveP (P : List Int) (n : Int) : List Int := (if (P.erase n).length = 64 then (P.erase n).eraseIdx 0 else P.erase n) ++ [n]
set_option maxRecDepth 100000 in
set_option maxHeartbeats 2000000 in
theorem next_any {w : World} {b : Nat} {nx : Int} {P : List Int} (h : CntAt w b nx P) (n0 : 0 ≤ nx) (n1 : nx ≤ 32767) :
    Calls Try.prog 27 #[.pointer (some ⟨b, 0, none⟩)] w fun e w' => e = .returned (.int .u16 nx) ∧ CntAt w' b ((nx + 1) % 32768) (giveP P nx) ∧ Turn (At b) w w' := by
  obtain ⟨c0, _, fz⟩ := h.cell
  have f0 := fz 0
  have H1 := Lib.hid (h.setNext ((nx + 1) % 32768))
  have T1 := Lib.hid (turn_set w b 0 (.int .u16 ((nx + 1) % 32768)))
  have gw : IntKind.u16.wrap (nx + 1) = nx + 1 := by unfold IntKind.wrap; simp [IntKind.bits, IntKind.signed]; omega
  obtain ⟨G, hG⟩ : ∃ G, G = giveP P nx := ⟨_, rfl⟩
  rw [← hG]
  have HG := Lib.hid hG
  clear h fz hG
  go_enter Try.func27, Try.ntmps27
  go_upto_region 3 with fail
  obtain ⟨W1, hW1⟩ : ∃ W1, W1 = w.setCell ⟨b, 0, none⟩ (.int .u16 ((nx + 1) % 32768)) := ⟨_, rfl⟩
  rw [← hW1] at H1 T1 ⊢
  clear hW1
  go_wp2_with fail
  refine (got_any nx H1.out).mono ?_
  rintro e W2 ⟨rfl, h2, t2⟩
  have T2 := Lib.hid (T1.out.trans t2)
  obtain ⟨Q, hQ⟩ : ∃ Q, Q = P.erase nx := ⟨_, rfl⟩
  have HG2 : Hid (G = (if Q.length = 64 then Q.eraseIdx 0 else Q) ++ [nx]) := Lib.hid (by rw [HG.out, giveP, ← hQ])
  rw [← hQ] at h2
  obtain ⟨_, c65, fz⟩ := h2.cell
  obtain ⟨n, hn⟩ : ∃ n, n = Q.length := ⟨_, rfl⟩
  have hle := h2.le
  rw [← hn] at c65 hle
  have HN := Lib.hid hn
  have H2 := Lib.hid h2
  have f65 := fz 65
  clear t2 hQ f0 c0
  have HFIN : Hid (∀ (W : World) (R : List Int), CntAt W b ((nx + 1) % 32768) R → R.length < 64 → Turn (At b) w W → ∃ y, W.cell? ⟨b, 1 + R.length, none⟩ = some (.int .u16 y)) := Lib.hid (fun W R hR hl _ => hR.byteCell _ hl)
  by_cases h64 : n = 64
  · subst h64
    have HG3 : Hid (G = Q.eraseIdx 0 ++ [nx]) := Lib.hid (by rw [HG2.out, if_pos hn.symm])
    have h0 : 0 < Q.length := by rw [← hn]; omega
    have HL : Hid ((Q.eraseIdx 0).length = 63) := Lib.hid (by rw [List.length_eraseIdx, if_pos h0, ← hn])
    have H0 := Lib.hid h0
    clear hn h2 fz h0 f65
    go_wp2_with fail
    refine (remove_any 0 H2.out H0.out).mono ?_
    rintro e W3 ⟨rfl, h3, t3⟩
    have T3 := Lib.hid (T2.out.trans t3)
    obtain ⟨R, hR⟩ : ∃ R, R = Q.eraseIdx 0 := ⟨_, rfl⟩
    rw [← hR] at HL h3 HG3
    obtain ⟨_, c65, fz⟩ := h3.cell
    obtain ⟨y, hy⟩ := h3.byteCell 63 (by omega)
    have fy := fz (1 + 63)
    have f65 := fz 65
    rw [HL.out] at c65
    have H3 := Lib.hid h3
    have gi : ((63 : Nat) : Int) < 64 := by omega
    clear h3 t3 fz hR
    go_wp2_with fail
    go_region
    go_wp2_with fail
    go_ret
    have hp := (H3.out.drewN 1).push nx (by rw [HL.out]; omega)
    rw [HL.out, ← HG3.out] at hp
    exact ⟨rfl, hp, (T3.out.trans (Turn.drew1 b W3 1)).trans ((turn_set _ b _ _).trans (turn_set _ b _ _))⟩
  · have HG3 : Hid (G = Q ++ [nx]) := Lib.hid (by rw [HG2.out, if_neg (by rw [← hn]; exact h64)])
    have hl : n < 64 := by omega
    obtain ⟨y, hy⟩ := h2.byteCell n hl
    have fy := fz (1 + n)
    have t64 : ((n : Int) == 64) = false := by simp; omega
    have gi : (n : Int) < 64 := by omega
    have gi0 : (0 : Int) ≤ (n : Int) := by omega
    have gw2 : IntKind.i64.wrap ((n : Int) + 1) = (n : Int) + 1 := IntWalk.i64_in _ (by omega)
    have HLN := Lib.hid hl
    clear hn h2 fz h64
    go_wp2_with fail
    go_region
    go_wp2_with fail
    go_ret
    have hp := (H2.out.drewN 1).push nx (by rw [← HN.out]; exact HLN.out)
    rw [← HN.out, ← HG3.out] at hp
    exact ⟨rfl, hp, (T2.out.trans (Turn.drew1 b W2 1)).trans ((turn_set _ b _ _).trans (turn_set _ b _ _))⟩
end Go.Proofs.Ytfijcdidcnfadaa.Head
