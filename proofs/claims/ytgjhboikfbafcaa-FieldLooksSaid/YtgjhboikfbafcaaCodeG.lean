/-
  Contracts of Text of package code, and of the reference's Text, Same and Copy.
-/
import Derived.Test.YtgjhboikfbafcaaCodeE
import Derived.Test.YtgjhboikfbafcaaCodeF
import Derived.Laws.Cover4
import Derived.Laws.Concat
namespace Go.Proofs.Ytgjhboikfbafcaa.Code
open Go.RowKit Go.Shelf
set_option linter.unusedVariables false

/-! ### Rows of bytes -/
/-- A slice value that reads as a row of numbers of kind k. -/
def RowOf (k : IntKind) (w : World) (v : Value) (L : List Int) : Prop :=
  ∃ a cap, v = .slice a L.length cap ∧ (L ≠ [] → ∃ b off, a = some ⟨b, off, none⟩ ∧ ∀ i, i < L.length → w.cell? ⟨b, off + i, none⟩ = some (.int k (L[i]?.getD 0)))
theorem RowOf.of_owns {k : IntKind} {w : World} {base : Nat} {e : TypeId} {v : Value} {L : List Int} (h : w.ownsRow base e 1 v L.length (L.map (Value.int k))) : RowOf k w v L := by
  rcases h.2 with ⟨rfl, h0⟩ | ⟨g, cap, cur, rfl, _, hg, _, _, _, _⟩
  · exact ⟨none, 0, by rw [h0], fun hne => absurd (List.eq_nil_of_length_eq_zero h0) hne⟩
  · refine ⟨_, cap, rfl, fun _ => ⟨g, 0, rfl, fun i hi => ?_⟩⟩
    have := World.ownsRow.cells h (g := g) rfl i (.int k (L[i]?.getD 0)) (by simp [hi])
    rw [show (0 : Nat) + i = i from Nat.zero_add i]
    by_cases hi0 : i = 0
    · subst hi0; simpa [Addr.add] using this
    · simpa [Addr.add, hi0] using this
theorem RowOf.kept {k : IntKind} {w w' : World} {v : Value} {L : List Int} (h : RowOf k w v L) (hc : ∀ b o x, w.cell? ⟨b, o, none⟩ = some x → w'.cell? ⟨b, o, none⟩ = some x) : RowOf k w' v L := by
  obtain ⟨a, cap, rfl, hr⟩ := h
  exact ⟨a, cap, rfl, fun hne => by obtain ⟨b, off, rfl, hi⟩ := hr hne; exact ⟨b, off, rfl, fun i h => hc _ _ _ (hi i h)⟩⟩
theorem RowOf.below {k : IntKind} {w w' : World} {v : Value} {L : List Int} (h : RowOf k w v L) (hb : Below w.heap.size w w') : RowOf k w' v L :=
  h.kept fun _ o _ hx => (hb.cell (p := ⟨_, o, none⟩) (World.block_lt_of_cell? w ⟨_, o, none⟩ hx)).trans hx
theorem RowOf.drewN {k : IntKind} {w : World} {v : Value} {L : List Int} (h : RowOf k w v L) (n : Nat) : RowOf k (w.drewN n) v L := h.kept fun _ _ _ hx => hx
theorem take_same (A B : List Int) (k : Nat) (hA : k < A.length) (hB : k < B.length) (h : A.take k = B.take k) : A.take (k + 1) = B.take (k + 1) ↔ A[k]?.getD 0 = B[k]?.getD 0 := by
  have e : A[k]?.getD 0 = A[k] ∧ B[k]?.getD 0 = B[k] := ⟨by simp [hA], by simp [hB]⟩
  rw [e.1, e.2, List.take_succ_eq_append_getElem hA, List.take_succ_eq_append_getElem hB, h]
  constructor
  · intro h'; simpa using (List.append_cancel_left h')
  · intro h'; rw [h']
theorem same_stop (A B : List Int) (k : Nat) (hne : ¬ A[k]?.getD 0 = B[k]?.getD 0) : decide (A = B) = false := by
  rw [decide_eq_false_iff_not]
  rintro rfl
  exact hne rfl
theorem same_all (A B : List Int) (n : Nat) (hA : A.length = n) (hB : B.length = n) (h : A.take n = B.take n) : decide (A = B) = true := by
  rw [decide_eq_true_iff]
  rw [List.take_of_length_le (by omega), List.take_of_length_le (by omega)] at h
  exact h

set_option maxHeartbeats 1000000 in
theorem same_any (u v : Value) (A B : List Int) (w : World) (hA : RowOf .u8 w u A) (hB : RowOf .u8 w v B) (hm : A.length ≤ maxLen) :
    Calls Try.prog 17 #[u, v] w fun e w' => e = .returned (.bool (decide (A = B))) ∧ ∃ n, w' = w.drewN n := by
  obtain ⟨a, cap, rfl, hra⟩ := hA
  obtain ⟨b, cap', rfl, hrb⟩ := hB
  unfold maxLen at hm
  by_cases hl : A.length = B.length
  · obtain ⟨n, hn⟩ : ∃ n, n = A.length := ⟨_, rfl⟩
    have hA' := Lib.hid hn.symm
    have hB' : Hid (B.length = n) := by rw [hn, hl]; exact rfl
    rw [← hl, ← hn]
    rw [← hl, ← hn] at hrb
    rw [← hn] at hm hra
    clear hl hn
    by_cases h0 : n = 0
    · have hd : decide (A = B) = true := same_all A B 0 (by rw [hA'.out, h0]) (by rw [hB'.out, h0]) (by simp)
      rw [hd]
      clear hd
      subst h0
      go_enter Try.func17, Try.ntmps17
      go_wp2
      go_loop [5] (fun i => i = .int .i64 0) (fun _ => 0)
      case atStart => rfl
      case round =>
        obtain rfl := hrel
        go_wp2
        go_ret
        exact ⟨rfl, 0, rfl⟩
    · obtain ⟨g, off, rfl, hga⟩ := hra (fun e => h0 (by rw [← hA'.out, e]; rfl))
      obtain ⟨g', off', rfl, hgb⟩ := hrb (fun e => h0 (by rw [← hB'.out, e]; rfl))
      clear hra hrb
      have HA := Lib.hid hga
      have HB := Lib.hid hgb
      clear hga hgb
      go_enter Try.func17, Try.ntmps17
      go_wp2
      go_loopw [5] (fun i wr => ∃ k j : Nat, k ≤ n ∧ i = .int .i64 k ∧ Hid (A.take k = B.take k) ∧ wr = w.drewN j) (fun i _ => n - (intOf i).toNat)
      case atStart => exact ⟨0, 0, Nat.zero_le _, rfl, rfl, rfl⟩
      case round =>
        obtain ⟨k, j, hk, rfl, HT, rfl⟩ := hrel
        by_cases hlt : k < n
        · have ca : w.cell? ⟨g, off + k, none⟩ = some (.int .u8 (A[k]?.getD 0)) := HA.out k hlt
          have cb : w.cell? ⟨g', off' + k, none⟩ = some (.int .u8 (B[k]?.getD 0)) := HB.out k hlt
          obtain ⟨x, hx⟩ : ∃ x, x = A[k]?.getD 0 := ⟨_, rfl⟩
          obtain ⟨y, hy⟩ : ∃ y, y = B[k]?.getD 0 := ⟨_, rfl⟩
          rw [← hx] at ca
          rw [← hy] at cb
          have HX := Lib.hid hx
          have HY := Lib.hid hy
          clear hx hy
          have hkn : (k : Int) < (n : Int) := by omega
          by_cases hxy : x = y
          · have ht : (x != y) = false := by simp [hxy]
            have HE := Lib.hid hxy
            clear hxy
            go_wp2
            go_quiet (fail)
            go_wp2
            go_roundw
            case rel => exact ⟨k + 1, _, by omega, by go_num, (take_same A B k (by rw [hA'.out]; exact hlt) (by rw [hB'.out]; exact hlt) HT.out).2 (by rw [← HX.out, ← HY.out]; exact HE.out), by first | rfl | (simp; done)⟩
            case measure => simp [intOf]; omega
          · have ht : (x != y) = true := by simp [hxy]
            have HE := Lib.hid hxy
            clear hxy
            go_wp2
            go_quiet (fail)
            go_wp2
            go_ret
            exact ⟨ret_bool (same_stop A B k (by rw [← HX.out, ← HY.out]; exact HE.out)).symm, j + nq, by simp⟩
        · obtain rfl : k = n := by omega
          go_wp2
          go_ret
          exact ⟨ret_bool (same_all A B k hA'.out hB'.out HT.out).symm, _, rfl⟩
  · have hd : decide (A = B) = false := by rw [decide_eq_false_iff_not]; rintro rfl; exact hl rfl
    rw [hd]
    have hl' : ((A.length : Int) != (B.length : Int)) = true := by simp; omega
    go_enter Try.func17, Try.ntmps17
    go_wp2
    go_ret
    exact ⟨rfl, 0, rfl⟩


/-! ### Texts, plainly -/
def IsBytes (L : List Int) : Prop := ∀ x ∈ L, 0 ≤ x ∧ x ≤ 255
def piece (page x : Int) : List UInt8 := if 64 ≤ x ∧ x ≤ 254 then Lib.encodeRune (sgn page x) else [32]
def textOf (page : Int) (L : List Int) : List UInt8 := L.flatMap (piece page)
theorem textOf_nil (page : Int) : textOf page [] = [] := rfl
theorem textOf_snoc (page : Int) (L : List Int) (x : Int) : textOf page (L ++ [x]) = textOf page L ++ piece page x := by simp [textOf]
theorem piece_le (page x : Int) : (piece page x).length ≤ 4 := by
  unfold piece
  split
  · have := Lib.runeCells_le (sgn page x); rw [Lib.runeCells_length] at this; exact this.2
  · simp
theorem textOf_le (page : Int) (L : List Int) : (textOf page L).length ≤ 4 * L.length := by
  induction L with
  | nil => simp [textOf]
  | cons x L ih =>
    have := piece_le page x
    simp only [textOf, List.flatMap_cons, List.length_append, List.length_cons] at ih ⊢
    omega
theorem take_snoc (L : List Int) (k : Nat) (h : k < L.length) : L.take (k + 1) = L.take k ++ [L[k]?.getD 0] := by
  rw [List.take_succ_eq_append_getElem h]; simp [h]
theorem IsBytes.at {L : List Int} (h : IsBytes L) (k : Nat) (hk : k < L.length) : 0 ≤ L[k]?.getD 0 ∧ L[k]?.getD 0 ≤ 255 := by
  have : L[k]?.getD 0 = L[k] := by simp [hk]
  rw [this]; exact h _ (List.getElem_mem _)

/-- The table's row and the fresh builder behind the first lines. -/
theorem text_start (w1 : World) (L : List Int) :
    Lib.IsBuilderF 98 5 (w1.heap.size + 1) (w1.heap.size + 1) (Lib.byteCells []) ((w1.alloc (.cells (tab L) 163)).alloc (.cells #[.pointer none, .slice none 0 0] 98)) := by
  have := Lib.IsBuilderF.of (Lib.fresh_isBuilder 98 5 (w1.alloc (.cells (tab L) 163)))
  rw [World.size_alloc] at this
  exact this

theorem text_behind {w w1 wr : World} {o o2 : Obj} (hb1 : Below w.heap.size w w1) (hbw : Below (w1.heap.size + 1) ((w1.alloc o).alloc o2) wr) : Below w.heap.size w wr :=
  ((hb1.alloc hb1.size _).alloc (by have := hb1.size; rw [World.size_alloc]; omega) _).trans (hbw.mono (by have := hb1.size; omega))
theorem text_cell {w w1 wr : World} {o o2 : Obj} (hb1 : Below w.heap.size w w1) (hbw : Below (w1.heap.size + 1) ((w1.alloc o).alloc o2) wr) {b q : Nat} {x : Value} (h : w.cell? ⟨b, q, none⟩ = some x) : wr.cell? ⟨b, q, none⟩ = some x :=
  cell_later (text_behind hb1 hbw) h
theorem text_sign {page : Int} {w1 wr : World} {T : List Int} {o2 : Obj} {b : Int} (hT : T = tabl page) (hbw : Below (w1.heap.size + 1) ((w1.alloc (.cells (tab T) 163)).alloc o2) wr) (b0 : 0 ≤ b) (b1 : b ≤ 255) : wr.cell? ⟨w1.heap.size, b.toNat, none⟩ = some (.int .i32 (sgn page b)) := by
  rw [hbw.cell (p := ⟨w1.heap.size, b.toNat, none⟩) (by simp)]
  have h : (w1.alloc (.cells (tab T) 163)).cell? ⟨w1.heap.size, b.toNat, none⟩ = some (.int .i32 (sgn page b)) := by
    rw [cell_of_row _ _ _ _ _ _ (heap_alloc_last w1 _), tab_get T b.toNat (by rw [hT, tabl_length]; omega), hT]; rfl
  exact cell_later ((Below.refl _ _).alloc (Nat.le_refl _) _) h
/-- What the loop knows between two rounds. -/
def TRel (page : Int) (L : List Int) (n B : Nat) (W0 : World) (i : Value) (wr : World) : Prop :=
  ∃ k : Nat, k ≤ n ∧ i = .int .i64 k ∧ Lib.IsBuilderF 98 5 B B (Lib.byteCells (textOf page (L.take k))) wr ∧ Below B W0 wr

set_option maxHeartbeats 2000000 in
theorem text_any (page : Int) (v : Value) (L : List Int) (w : World) (hv : RowOf .u8 w v L) (hb : IsBytes L) (hm : L.length ≤ 1000000000) :
    Calls Try.prog 92 #[.int .i64 page, v] w fun e w' => e = .returned (.string ⟨(textOf page L).toArray⟩) ∧ Below w.heap.size w w' := by
  have hz := (zero_of_info info_tab).1
  obtain ⟨T, hT0⟩ : ∃ T, T = tabl page := ⟨_, rfl⟩
  have hlen : T.length = 256 := by rw [hT0]; exact tabl_length page
  have hT : Hid (∀ w, Calls Try.prog 114 #[.int .i64 page] w fun e w' => e = .returned (.agg (tab T)) ∧ Below w.heap.size w w') := by
    intro w; rw [hT0]; exact table_any page w
  have hs := fun w => store_new w z256 T zeros_length hlen
  have HLEN := Lib.hid hlen
  have HT0 := Lib.hid hT0
  have hsz : (tab T).size = 256 := by rw [tab_size]; exact hlen
  clear hT0 hlen
  obtain ⟨a, cap, rfl, hra⟩ := hv
  by_cases h0 : L = []
  · subst h0
    simp only [List.length_nil]
    go_enter Try.func92, Try.ntmps92
    go_wp2_with fail
    refine (hT.out _).mono ?_
    rintro e w1 ⟨rfl, hb1⟩
    have HB1 := Lib.hid hb1
    have hsz1 := hb1.size
    clear hb1
    go_wp2_with fail
    go_loopw [13] (TRel page [] 0 (w1.heap.size + 1) ((w1.alloc (.cells (tab T) 163)).alloc (.cells #[.pointer none, .slice none 0 0] 98))) (fun i _ => 0 - (intOf i).toNat)
    case atStart => exact ⟨0, by omega, rfl, text_start w1 T, Below.refl _ _⟩
    case round =>
      obtain ⟨k, hk, rfl, hI, hBw⟩ := hrel
      obtain rfl : k = 0 := by omega
      have hszr := hBw.size
      simp only [World.size_alloc] at hszr
      go_wp2_with fail
      refine (Try.Builder_String_any_k (w1.heap.size + 1) (w1.heap.size + 1) _ _ hI (by omega)).mono ?_
      rintro e W1 ⟨rfl, _, b1, _⟩
      go_wp2_with fail
      go_ret
      exact ⟨rfl, text_behind HB1.out (hBw.trans b1)⟩
  · obtain ⟨b, off, rfl, hcell⟩ := hra h0
    obtain ⟨n, hn⟩ : ∃ n, n = L.length := ⟨_, rfl⟩
    have HN := Lib.hid hn
    rw [← hn] at hm hcell ⊢
    clear hn hra h0
    have HC := Lib.hid hcell
    have HB := Lib.hid hb
    clear hcell hb
    go_enter Try.func92, Try.ntmps92
    go_wp2_with fail
    refine (hT.out _).mono ?_
    rintro e w1 ⟨rfl, hb1⟩
    have HB1 := Lib.hid hb1
    have hsz1 := hb1.size
    clear hb1
    go_wp2_with fail
    go_loopw [13] (TRel page L n (w1.heap.size + 1) ((w1.alloc (.cells (tab T) 163)).alloc (.cells #[.pointer none, .slice none 0 0] 98))) (fun i _ => n - (intOf i).toNat)
    case atStart => exact ⟨0, by omega, rfl, text_start w1 T, Below.refl _ _⟩
    case round =>
      obtain ⟨k, hk, rfl, hI, hBw⟩ := hrel
      have hszr := hBw.size
      simp only [World.size_alloc] at hszr
      by_cases hlt : k < n
      · have hkn : (k : Int) < (n : Int) := by omega
        obtain ⟨x, hx⟩ : ∃ x, x = L[k]?.getD 0 := ⟨_, rfl⟩
        have hxb := HB.out.at k (by rw [← HN.out]; exact hlt)
        have hc := text_cell HB1.out hBw (HC.out k hlt)
        rw [← hx] at hxb hc
        obtain ⟨x0, x1⟩ := hxb
        have hsg := text_sign (b := x) HT0.out hBw x0 x1
        have hsb := sgn_bd page x
        obtain ⟨y, hy⟩ : ∃ y, y = sgn page x := ⟨_, rfl⟩
        rw [← hy] at hsg hsb
        obtain ⟨y0, y1⟩ := hsb
        have hll := textOf_le page (L.take k)
        have htk : (L.take k).length = k := by rw [List.length_take, ← HN.out]; omega
        rw [htk] at hll
        have hsnoc := take_snoc L k (by rw [← HN.out]; exact hlt)
        have HX : Hid (L.take (k + 1) = L.take k ++ [x]) := by rw [hx]; exact hsnoc
        have HY := Lib.hid hy
        clear hx hy htk hsnoc
        by_cases hg : 64 ≤ x ∧ x ≤ 254
        · have HG := Lib.hid hg
          clear hg
          go_wp2_with fail
          refine (to_bool (graphic_any x _ x0 x1) (decide_eq_true HG.out)).mono ?_
          rintro e w' ⟨rfl, rfl⟩
          go_wp2_with fail
          refine (writeRune_k _ _ _ y (by omega) (by omega) _ hI (by rw [Lib.byteCells_length]; omega) (by omega)).mono ?_
          rintro e W1 ⟨rfl, h1, b1⟩
          go_wp2_with fail
          go_roundw
          case rel =>
            refine ⟨k + 1, by omega, by go_num, ?_, hBw.trans b1⟩
            rw [HX.out, textOf_snoc, Lib.byteCells_append]
            have e : piece page x = Lib.encodeRune y := by unfold piece; rw [if_pos HG.out, HY.out]
            rw [e, Lib.byteCells_encodeRune]
            exact Or.inr h1
          case measure => simp [intOf]; omega
        · have HG := Lib.hid hg
          clear hg
          go_wp2_with fail
          refine (to_bool (graphic_any x _ x0 x1) (decide_eq_false HG.out)).mono ?_
          rintro e w' ⟨rfl, rfl⟩
          go_wp2_with fail
          refine (writeByte_k _ _ _ 32 _ hI (by rw [Lib.byteCells_length]; omega) (by omega)).mono ?_
          rintro e W1 ⟨rfl, h1, b1⟩
          go_wp2_with fail
          go_roundw
          case rel =>
            refine ⟨k + 1, by omega, by go_num, ?_, hBw.trans b1⟩
            rw [HX.out, textOf_snoc, Lib.byteCells_append]
            have e : piece page x = [32] := by unfold piece; rw [if_neg HG.out]
            rw [e]
            exact Or.inr h1
          case measure => simp [intOf]; omega
      · obtain rfl : k = n := by omega
        go_wp2_with fail
        refine (Try.Builder_String_any_k (w1.heap.size + 1) (w1.heap.size + 1) _ _ hI (by omega)).mono ?_
        rintro e W1 ⟨rfl, _, b1, _⟩
        go_wp2_with fail
        go_ret
        exact ⟨by rw [List.take_of_length_le (by rw [← HN.out]; omega)]; rfl, text_behind HB1.out (hBw.trans b1)⟩

theorem enc_all : ((List.range 256).all fun n => decide ((Utf8.encode (n : Int)).data.toList = Lib.encodeRune (n : Int))) = true := by kernel_rfl
theorem enc_eq (x : Int) (h0 : 0 ≤ x) (h1 : x ≤ 255) : (Utf8.encode x).data.toList = Lib.encodeRune x := by
  have := List.all_eq_true.1 enc_all x.toNat (by simp; omega)
  simp only [decide_eq_true_eq] at this
  rw [show ((x.toNat : Nat) : Int) = x by omega] at this
  exact this
def RTRel (page : Int) (L : List Int) (n : Nat) (w : World) (v i : Value) (wr : World) : Prop :=
  ∃ (k : Nat) (s : ByteArray), k ≤ n ∧ i = .int .i64 k ∧ v = .string s ∧ s.data.toList = textOf page (L.take k) ∧ Below w.heap.size w wr
theorem str_eq {s : ByteArray} {l : List UInt8} (h : s.data.toList = l) : s = ⟨l.toArray⟩ := by
  subst h; rfl

end Go.Proofs.Ytgjhboikfbafcaa.Code
