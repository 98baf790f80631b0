/-
  Contracts of allow and New.
-/
import Derived.Test.YtimidoaafllnkaaOptB
import Derived.Deep.WholeRow
namespace Go.Proofs.Ytimidoaafllnkaa.Opt
open Go.RowKit Base
set_option linter.unusedVariables false

/-! ### Which may be on -/
def IsBytes (L : List Int) : Prop := ∀ x ∈ L, 0 ≤ x ∧ x < 256
def allowM (M : Nat → Bool) (off : Nat) (L : List Int) : Nat → Bool := fun j => M j || L.any fun x => decide (j = off + x.toNat)
theorem allow_step (M : Nat → Bool) (off k : Nat) (L : List Int) (x : Int) (hx : L[k]? = some x) : (fun j => if j = off + x.toNat then true else allowM M off (L.take k) j) = allowM M off (L.take (k + 1)) := by
  funext j
  unfold allowM
  obtain ⟨hk, rfl⟩ := List.getElem?_eq_some_iff.1 hx
  rw [List.take_succ_eq_append_getElem hk, List.any_append]
  by_cases e : j = off + (L[k]).toNat
  · rw [if_pos e]; simp [e]
  · rw [if_neg e]; simp [e]
theorem OptAt.setMay {w : World} {b : Nat} {M : Nat → Bool} {S : Nat → Nat} (h : OptAt w b M S) (i : Nat) (hm : i / 256 % 2 = 0) : OptAt (w.setCell ⟨b, i, none⟩ (.bool true)) b (fun j => if j = i then true else M j) S := by
  have := heap_set h i (.bool true)
  rw [optC_may M S i true hm] at this
  exact this
theorem allow_any {w : World} {b : Nat} {M : Nat → Bool} {S : Nat → Nat} (off : Nat) (hoff : off = 0 ∨ off = 512) (v : Value) (L : List Int) (h : OptAt w b M S) (hr : RowIn (fun k => k ≠ b) .u8 w v L) (hL : IsBytes L) (hm : L.length ≤ maxLen) :
    Calls Try.prog 98 #[.pointer (some ⟨b, off, none⟩), v] w fun e w' => e = .returned (.tuple #[]) ∧ OptAt w' b (allowM M off L) S ∧ Turn (At b) w w' := by
  unfold maxLen at hm
  obtain ⟨a, cap, rfl, hrow⟩ := hr
  obtain ⟨n, hn⟩ : ∃ n, n = L.length := ⟨_, rfl⟩
  rw [← hn] at hm ⊢
  have HN := Lib.hid hn
  have HR := Lib.hid hrow
  have H := Lib.hid h
  have HL := Lib.hid hL
  clear hn hrow h hL
  go_enter Try.func98, Try.ntmps98
  go_wp2
  go_loopw [8] (fun i wr => ∃ k : Nat, k ≤ n ∧ i = .int .i64 k ∧ OptAt wr b (allowM M off (L.take k)) S ∧ Turn (At b) w wr) (fun i _ => n - (intOf i).toNat)
  case atStart => exact ⟨0, by omega, rfl, by rw [show allowM M off (L.take 0) = M from by funext j; simp [allowM]]; exact H.out, Turn.refl _ w⟩
  case round =>
    obtain ⟨k, hk, rfl, hO, ht⟩ := hrel
    by_cases hkn : k < n
    · have hkl : k < L.length := by rw [← HN.out]; exact hkn
      obtain ⟨g, o, rfl, hgb, hlt, hc⟩ := HR.out (by intro e; rw [e] at hkl; simp at hkl)
      have hx : L[k]? = some L[k] := by simp [hkl]
      have hxb := HL.out L[k] (List.getElem_mem hkl)
      obtain ⟨x, hxx⟩ : ∃ x : Nat, L[k] = (x : Int) := ⟨(L[k]).toNat, by omega⟩
      have d := (cell_block (ht.block g hlt hgb) (o + k)).trans (hc k hkl)
      rw [hx] at d
      simp only [Option.getD_some, hxx] at d
      rw [hxx] at hx hxb
      have hx256 : x < 256 := by omega
      have hs := allow_step M off k L x hx
      have hset := hO.setMay (off + x) (by omega)
      simp only [Int.toNat_natCast] at hs
      rw [hs] at hset
      have hf := hO.frozen (off + x)
      have hcell := hO.may (off + x) (by omega) (by omega)
      have HSET := Lib.hid hset
      have HT := Lib.hid (ht.trans (turn_set wr b (off + x) (.bool true)))
      have HT0 := Lib.hid ht
      have HO := Lib.hid hO
      have HS := Lib.hid hs
      clear hset hs hO ht hc hx hxx hkl hxb
      clear HS HO HT0
      go_wp2
      go_roundw
      case rel => exact ⟨k + 1, by omega, by go_num, HSET.out, HT.out⟩
      case measure => simp [intOf]; omega
    · obtain rfl : n = k := by omega
      go_wp2
      refine bodyPost_end (results_none rfl _ _ _) rfl ?_
      rw [List.take_of_length_le (by rw [← HN.out]; exact Nat.le_refl _)] at hO
      exact ⟨rfl, hO, ht⟩
theorem info_opt : (Try.prog.info? 112).map (fun i => (i.zero, i.size)) = some (some (.agg (optC (fun _ => false) (fun _ => 0))), 1024) := by kernel_rfl
/-- Which may be on: ours, theirs. -/
def mayM (A B : List Int) : Nat → Bool := allowM (allowM (fun _ => false) 0 A) 512 B
theorem new_any (u v : Value) (A B : List Int) (w : World) (hu : RowOf .u8 w u A) (hv : RowOf .u8 w v B) (hA : IsBytes A) (hB : IsBytes B) (ha : A.length ≤ maxLen) (hb : B.length ≤ maxLen) :
    Calls Try.prog 69 #[u, v] w fun e w' => e = .returned (.pointer (some ⟨w.heap.size, 0, none⟩)) ∧ OptAt w' w.heap.size (mayM A B) (fun _ => 0) ∧ Below w.heap.size w w' ∧ w.heap.size < w'.heap.size := by
  have hz := (zero_of_info info_opt).1
  have h0 : OptAt (w.alloc (.cells (optC (fun _ => false) (fun _ => 0)) 112)) w.heap.size (fun _ => false) (fun _ => 0) := heap_alloc_new w _
  have hu' : RowIn (fun k => k ≠ w.heap.size) .u8 (w.alloc (.cells (optC (fun _ => false) (fun _ => 0)) 112)) u A := (hu.lowK.below (below_alloc w _)).mono fun k hk => by omega
  have hv' : RowIn (fun k => k ≠ w.heap.size) .u8 (w.alloc (.cells (optC (fun _ => false) (fun _ => 0)) 112)) v B := (hv.lowK.below (below_alloc w _)).mono fun k hk => by omega
  have hb0 := below_alloc w (.cells (optC (fun _ => false) (fun _ => 0)) 112)
  have hsz : (w.alloc (.cells (optC (fun _ => false) (fun _ => 0)) 112)).heap.size = w.heap.size + 1 := World.size_alloc _ _
  obtain ⟨W, hW⟩ : ∃ W, W = w.alloc (.cells (optC (fun _ => false) (fun _ => 0)) 112) := ⟨_, rfl⟩
  rw [← hW] at h0 hu' hv' hb0 hsz
  have HW := Lib.hid hW.symm
  have HSZ := Lib.hid hsz
  have HB := Lib.hid hb0
  clear hW hu hv hsz hb0
  go_enter Try.func69, Try.ntmps69
  go_wp2_with fail
  rw [HW.out]
  refine (allow_any 0 (.inl rfl) u A h0 hu' hA ha).mono ?_
  rintro e w1 ⟨rfl, h1, t1⟩
  have hv1 := hv'.turn t1 fun b hb => hb
  have H1 := Lib.hid h1
  have T1 := Lib.hid t1
  clear h1 t1 hv' hu' h0 HW
  go_wp2_with fail
  refine (allow_any 512 (.inr rfl) v B H1.out hv1 hB hb).mono ?_
  rintro e w2 ⟨rfl, h2, t2⟩
  have H2 := Lib.hid h2
  have T2 := Lib.hid (T1.out.trans t2)
  clear h2 t2
  go_wp2_with fail
  go_ret
  have hs2 := T2.out.size
  have := HSZ.out
  exact ⟨rfl, H2.out, HB.out.trans (T2.out.below (by omega) (fun k hk => by rw [show k = _ from hk]; exact Nat.le_refl _)), by omega⟩
end Go.Proofs.Ytimidoaafllnkaa.Opt
