/-
  A talk built of a name and of options.
-/
import Derived.Test.YtimidoaafllnkaaTalkZ
namespace Go.Proofs.Ytimidoaafllnkaa.Talk
open Go.RowKit Base Opt
set_option linter.unusedVariables false

theorem fold_set (off : Nat) : ∀ (l : List Value) (k : Nat) (A : Array Value), ((l.zipIdx k).foldl (fun cs p => cs.setIfInBounds (off + p.2) p.1) A).size = A.size ∧ ∀ j, ((l.zipIdx k).foldl (fun cs p => cs.setIfInBounds (off + p.2) p.1) A)[j]? = if off + k ≤ j ∧ j < off + k + l.length ∧ j < A.size then l[j - (off + k)]? else A[j]?
  | [], k, A => by
    refine ⟨rfl, fun j => ?_⟩
    rw [if_neg (by simp; omega)]
    rfl
  | x :: l, k, A => by
    obtain ⟨h1, h2⟩ := fold_set off l (k + 1) (A.setIfInBounds (off + k) x)
    rw [List.zipIdx_cons, List.foldl_cons]
    refine ⟨by rw [h1, Array.size_setIfInBounds], fun j => ?_⟩
    rw [h2, Array.size_setIfInBounds, Array.getElem?_setIfInBounds, List.length_cons]
    by_cases e : off + k = j
    · subst e
      rw [if_neg (by omega), if_pos rfl]
      by_cases hlt : off + k < A.size
      · rw [if_pos hlt, if_pos (by omega), Nat.sub_self]; rfl
      · rw [if_neg hlt, if_neg (by omega)]
        exact (Array.getElem?_eq_none (by omega)).symm
    · rw [if_neg e]
      by_cases hc : off + k ≤ j ∧ j < off + k + (l.length + 1) ∧ j < A.size
      · rw [if_pos hc, if_pos (by omega), show j - (off + k) = (j - (off + (k + 1))) + 1 by omega, List.getElem?_cons_succ]
      · rw [if_neg hc, if_neg (by omega)]
theorem fold_arr (off : Nat) (C A : Array Value) (j : Nat) : (C.zipIdx.foldl (fun cs p => cs.setIfInBounds (off + p.2) p.1) A)[j]? = if off ≤ j ∧ j < off + C.size ∧ j < A.size then C[j - off]? else A[j]? := by
  have h := (fold_set off C.toList 0 A).2 j
  rw [← Array.foldl_toList, Array.toList_zipIdx]
  simpa using h
theorem fold_arr_size (off : Nat) (C A : Array Value) : (C.zipIdx.foldl (fun cs p => cs.setIfInBounds (off + p.2) p.1) A).size = A.size := by
  have h := (fold_set off C.toList 0 A).1
  rw [← Array.foldl_toList, Array.toList_zipIdx]
  simpa using h
theorem places_talk : (match Try.prog.underlying 115 with | some (.struct fields) => fields.toList.mapM (fun f => (Try.prog.info? f.type).map fun i => (f.offset, i.size)) | _ => none) = some [(0, 1), (1, 1024), (1025, 1)] := by kernel_rfl
set_option maxRecDepth 100000 in
theorem built_talk (nm : ByteArray) (M : Nat → Bool) (S : Nat → Nat) : Try.prog.built 115 [(0, .string nm), (1, .agg (optC M S))] = some (talkC nm M S false) := by
  have hp := places_talk
  have hi := info_talk
  unfold Program.built
  cases hit : Try.prog.info? 115 with
  | none => rw [hit] at hi; cases hi
  | some it =>
    rw [hit] at hi
    simp only [Option.map_some, Option.some.injEq, Prod.mk.injEq] at hi
    cases hu : Try.prog.underlying 115 with
    | none => rw [hu] at hp; cases hp
    | some d =>
      rw [hu] at hp
      cases d <;> try (cases hp; done)
      case struct fields =>
        simp only at hp ⊢
        have hz : ∀ j : Nat, ztalk[j]? = (talkC ⟨#[]⟩ (fun _ => false) (fun _ => 0) false)[j]? := fun j => by rw [ztalk_eq]
        have hzs : ztalk.size = 1026 := by rw [ztalk_eq, talkC_size]
        have hi1 := hi.1
        generalize ztalk = Z at hi1 hz hzs
        have hC := optC_at M S
        have hCs := optC_size M S
        obtain ⟨C, hCC⟩ : ∃ C, C = optC M S := ⟨_, rfl⟩
        rw [← hCC] at hC hCs ⊢
        rw [hi1, hp]
        have e1 : (Value.agg Z).cells = Z := rfl
        have e2 : (Value.agg C).cells = C := rfl
        have e3 : (Value.string nm).cells = #[.string nm] := rfl
        simp only [e1]
        have s1 : (#[Value.string nm].zipIdx.foldl (fun cs p => cs.setIfInBounds (0 + p.2) p.1) Z).size = Z.size := fold_arr_size _ _ _
        have s2 : ∀ Y : Array Value, (C.zipIdx.foldl (fun cs p => cs.setIfInBounds (1 + p.2) p.1) Y).size = Y.size := fun Y => fold_arr_size _ _ _
        have f1 : Instr.fill (fun x => (#[(0, 1), (1, 1024), (1025, 1)] : Array (Nat × Nat))[x]?) Z [(0, .string nm), (1, .agg C)] = some (C.zipIdx.foldl (fun cs p => cs.setIfInBounds (1 + p.2) p.1) (#[Value.string nm].zipIdx.foldl (fun cs p => cs.setIfInBounds (0 + p.2) p.1) Z)) := by
          unfold Instr.fill
          rw [show (#[(0, 1), (1, 1024), (1025, 1)] : Array (Nat × Nat))[0]? = some (0, 1) from rfl]
          simp only [e3]
          rw [if_neg (by simp [hzs])]
          unfold Instr.fill
          rw [show (#[(0, 1), (1, 1024), (1025, 1)] : Array (Nat × Nat))[1]? = some (1, 1024) from rfl]
          simp only [e2]
          rw [if_neg (by rw [s1, hzs, hCs]; simp)]
          rfl
        refine Eq.trans f1 (congrArg some ?_)
        apply Array.ext_getElem?
        intro j
        rw [fold_arr, fold_arr, s1, hzs, hCs, talkC_at, hz, talkC_at]
        by_cases h0 : j = 0
        · subst h0
          rw [if_neg (by omega), if_pos ⟨by omega, by simp, by omega⟩, if_pos rfl]
          rfl
        · by_cases h1 : j < 1025
          · rw [if_pos (by omega), hC, if_pos (by omega)]
            simp [h0, h1]
          · rw [if_neg (by omega), if_neg (by simp; omega)]
            simp [h0, h1]
end Go.Proofs.Ytimidoaafllnkaa.Talk
