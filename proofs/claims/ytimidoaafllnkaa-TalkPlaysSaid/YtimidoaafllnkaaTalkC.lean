/-
  A name that is cleaned.
-/
import Derived.Test.YtimidoaafllnkaaTalkB
import Derived.Laws.IdiomStrings
namespace Go.Proofs.Ytimidoaafllnkaa.Talk
open Go.RowKit Base Opt
set_option linter.unusedVariables false

def nums (s : ByteArray) : List Int := s.data.toList.map fun b => (b.toNat : Int)
theorem nums_length (s : ByteArray) : (nums s).length = s.size := by
  unfold nums
  rw [List.length_map, Array.length_toList]
  rfl
theorem nums_bd (s : ByteArray) : ∀ x ∈ nums s, 0 ≤ x ∧ x < 256 := by
  intro x hx
  obtain ⟨b, _, rfl⟩ := List.mem_map.1 hx
  have := b.toNat_lt
  omega
theorem nums_str (L : List Int) (h : ∀ x ∈ L, 0 ≤ x ∧ x < 256) : nums (strOfNums L) = L := by
  unfold nums strOfNums
  simp only [List.map_map]
  conv => rhs; rw [← List.map_id L]
  apply List.map_congr_left
  intro x hx
  obtain ⟨h0, h1⟩ := h x hx
  show (((UInt8.ofNat x.toNat).toNat : Nat) : Int) = x
  rw [UInt8.toNat_ofNat']
  omega
theorem str_nums (s : ByteArray) : strOfNums (nums s) = s := by
  unfold nums strOfNums
  simp only [List.map_map]
  congr 1
  conv => rhs; rw [← Array.toArray_toList (xs := s.data)]
  congr 1
  conv => rhs; rw [← List.map_id s.data.toList]
  apply List.map_congr_left
  intro x _
  simp
/-- A sign of a name, cleaned. -/
def cl (x : Int) : Int := if x < 33 ∨ 126 < x then 63 else x
def cleanL (L : List Int) : List Int := (L.take 16).map cl
/-- A name, cleaned. -/
def cleaned (s : ByteArray) : ByteArray := strOfNums (cleanL (nums s))
theorem cl_bd (x : Int) (h : 0 ≤ x ∧ x < 256) : 0 ≤ cl x ∧ cl x < 256 := by unfold cl; split <;> omega
theorem cl_cl (x : Int) : cl (cl x) = cl x := by
  by_cases h : x < 33 ∨ 126 < x
  · have e : cl x = 63 := if_pos h
    rw [e]; rfl
  · have e : cl x = x := if_neg h
    rw [e, e]
theorem cleanL_bd (L : List Int) (h : ∀ x ∈ L, 0 ≤ x ∧ x < 256) : ∀ x ∈ cleanL L, 0 ≤ x ∧ x < 256 := by
  intro x hx
  obtain ⟨y, hy, rfl⟩ := List.mem_map.1 hx
  exact cl_bd y (h y (List.mem_of_mem_take hy))
theorem cleanL_length (L : List Int) : (cleanL L).length = min 16 L.length := by simp [cleanL]
theorem nums_cleaned (s : ByteArray) : nums (cleaned s) = cleanL (nums s) := nums_str _ (cleanL_bd _ (nums_bd s))
theorem cleaned_size (s : ByteArray) : (cleaned s).size = min 16 s.size := by rw [← nums_length, nums_cleaned, cleanL_length, nums_length]
theorem cleaned_twice (s : ByteArray) : cleaned (cleaned s) = cleaned s := by
  unfold cleaned
  rw [show nums (strOfNums (cleanL (nums s))) = cleanL (nums s) from nums_cleaned s]
  congr 1
  unfold cleanL
  rw [List.take_of_length_le (by rw [List.length_map, List.length_take]; omega)]
  rw [List.map_map]
  apply List.map_congr_left
  intro x _
  exact cl_cl x
/-- The cells of a row that is turned byte by byte. -/
def CellsAt (W : World) (g n : Nat) (f : Nat → Int) : Prop := ∀ i, i < n → W.cell? ⟨g, i, none⟩ = some (.int .u8 (f i)) ∧ W.frozen? ⟨g, i, none⟩ = false
theorem CellsAt.row {W : World} {g n cap : Nat} {f : Nat → Int} (h : CellsAt W g n f) (L : List Int) (hn : n = L.length) (hL : ∀ i, i < n → f i = L[i]?.getD 0) : RowOf .u8 W (.slice (some ⟨g, 0, none⟩) n cap) L := by
  subst hn
  refine ⟨_, cap, rfl, fun _ => ⟨g, 0, rfl, fun i hi => ?_⟩⟩
  rw [Nat.zero_add, (h i hi).1, hL i hi]
theorem CellsAt.set {W : World} {g n : Nat} {f : Nat → Int} (h : CellsAt W g n f) (k : Nat) (hk : k < n) (y : Int) : CellsAt (W.setCell ⟨g, k, none⟩ (.int .u8 y)) g n (fun i => if i = k then y else f i) := by
  intro i hi
  obtain ⟨h1, h2⟩ := h i hi
  by_cases e : i = k
  · subst e
    exact ⟨by show _ = some (Value.int .u8 (if i = i then y else f i)); rw [if_pos rfl]; exact World.cell?_setCell_same _ _ _ h1, by rw [World.frozen?_setCell]; exact h2⟩
  · refine ⟨?_, by rw [World.frozen?_setCell]; exact h2⟩
    show _ = some (Value.int .u8 (if i = k then y else f i))
    rw [if_neg e]
    have hne : (⟨g, k, none⟩ : Addr) ≠ ⟨g, i, none⟩ := by intro h; injection h with h1 h2; exact e h2.symm
    first | exact (World.cell?_setCell_other _ _ _ _ hne).trans h1 | exact (World.cell?_setCell_other _ _ hne).trans h1 | (simp [hne, h1]; done)
theorem CellsAt.mono {W : World} {g n : Nat} {f f' : Nat → Int} (h : CellsAt W g n f) (hf : ∀ i, i < n → f i = f' i) : CellsAt W g n f' := fun i hi => by rw [← hf i hi]; exact h i hi
theorem conv_row (s : ByteArray) (w : World) : ∃ cap W1, (convert 9 24 (.string s)).run Try.prog w = .ok (.slice (some ⟨w.heap.size, 0, none⟩) s.size cap) W1 ∧ CellsAt W1 w.heap.size s.size (fun i => (nums s)[i]?.getD 0) ∧ Below w.heap.size w W1 ∧ w.heap.size < W1.heap.size := by
  have hb : Below w.heap.size w (w.drew.alloc (.cells (bytesRow s (grownCap w s.size 0 5)) 5 ((bytesRow s (grownCap w s.size 0 5)).size, (bytesRow s (grownCap w s.size 0 5)).size + 1))) := (below_drewN (Below.refl w.heap.size w) 1).alloc (Nat.le_refl _) _
  refine ⟨_, _, run_bytes_of_string w 9 24 5 s Try.underlying9 Try.underlying24 Try.underlying5, fun i hi => ?_, hb, by rw [World.size_alloc]; show w.heap.size < w.heap.size + 1; omega⟩
  have hblk := heap_alloc_new w.drew (.cells (bytesRow s (grownCap w s.size 0 5)) 5 ((bytesRow s (grownCap w s.size 0 5)).size, (bytesRow s (grownCap w s.size 0 5)).size + 1))
  have hi' : i < s.data.size := hi
  have hsz : i < (s.data.map (fun b => Value.int .u8 (b.toNat : Int))).size := by rw [Array.size_map]; exact hi'
  have hget : (bytesRow s (grownCap w s.size 0 5))[i]? = some (.int .u8 ((nums s)[i]?.getD 0)) := by
    unfold bytesRow
    rw [Array.getElem?_append_left hsz]
    rw [Array.getElem?_map, nums, List.getElem?_map, Array.getElem?_toList, Array.getElem?_eq_getElem hi']
    rfl
  have hlt : i < (bytesRow s (grownCap w s.size 0 5)).size := (Array.getElem?_eq_some_iff.1 hget).1
  refine ⟨?_, ?_⟩
  · show World.cell? _ ⟨w.drew.heap.size, i, none⟩ = _
    simp only [World.cell?, hblk]
    simpa using hget
  · show World.frozen? _ ⟨w.drew.heap.size, i, none⟩ = _
    simp only [World.frozen?, hblk]
    simp
    omega
def CleanRel (w : World) (g n : Nat) (L : List Int) (i : Value) (wr : World) : Prop := ∃ k, k ≤ n ∧ i = .int .i64 (k : Nat) ∧ CellsAt wr g n (fun i => if i < k then cl (L[i]?.getD 0) else L[i]?.getD 0) ∧ Turn (At g) w wr
set_option maxRecDepth 100000 in
set_option maxHeartbeats 4000000 in
theorem clean_row (s : ByteArray) (n g cap : Nat) (L : List Int) (w0 w : World) (hn : n = L.length) (hn16 : n ≤ 16) (hs : s.size ≤ maxLen) (hcase : s.size = n ∧ n ≤ 16 ∨ 16 < s.size ∧ n = 16)
    (hconv : (convert 9 24 (.string (if s.size ≤ 16 then s else s.extract 0 16))).run Try.prog w0 = .ok (.slice (some ⟨g, 0, none⟩) n cap) w) (hg : w0.heap.size ≤ g) (hgw : g < w.heap.size) (hb : Below w0.heap.size w0 w) (hc : CellsAt w g n (fun i => L[i]?.getD 0)) :
    Calls Try.prog 68 #[.string s] w0 fun e w' => e = .returned (.string (strOfNums (L.map cl))) ∧ Below w0.heap.size w0 w' := by
  have HC := Lib.hid hc
  have HB := Lib.hid hb
  have HG := Lib.hid hg
  have HGW := Lib.hid hgw
  have HN := Lib.hid hn
  have h0 : (0 : Int) ≤ s.size := Int.natCast_nonneg _
  unfold maxLen at hs
  have hni : (n : Int) ≤ 16 := by omega
  have HRES : Hid (∀ W : World, CellsAt W g n (fun i => cl (L[i]?.getD 0)) → (convert 24 9 (.slice (some ⟨g, 0, none⟩) n cap)).run Try.prog W = .ok (.string (strOfNums (L.map cl))) W) := Lib.hid fun W h =>
    row_str (h.row (L.map cl) (by rw [List.length_map]; exact HN.out) (fun i hi => by
      have hi' : i < L.length := by rw [← HN.out]; exact hi
      show cl (L[i]?.getD 0) = _
      simp [hi']))
  clear hb hc hg hgw hn
  rcases hcase with ⟨hsn, _⟩ | ⟨hs16, rfl⟩
  · have hle : s.size ≤ 16 := by omega
    rw [if_pos hle] at hconv
    have hsi : (s.size : Int) ≤ 16 := by omega
    subst hsn
    go_enter Try.func68, Try.ntmps68
    go_upto_region 3 with fail
    go_loopw [14] (fun i wr => CleanRel w g s.size L i wr) (fun i _ => s.size - (intOf i).toNat)
    case atStart => exact ⟨0, Nat.zero_le _, rfl, HC.out.mono fun i hi => by rw [if_neg (by omega)], Turn.refl _ _⟩
    case round =>
      obtain ⟨k, hk, rfl, hcc, hold⟩ := hrel
      have HCC := Lib.hid hcc
      have HO := Lib.hid hold
      by_cases hkn : k < s.size
      · have d0 : wr.cell? ⟨g, k, none⟩ = some (.int .u8 (L[k]?.getD 0)) := by
          have := (hcc k hkn).1
          simpa using this
        have d1 := (hcc k hkn).2
        obtain ⟨x, hx⟩ : ∃ x, x = L[k]?.getD 0 := ⟨_, rfl⟩
        rw [← hx] at d0
        have HX := Lib.hid hx
        have hkn' : (k : Int) < (s.size : Int) := by omega
        have HNX1 : x < 33 ∨ 126 < x → Hid (CellsAt (wr.setCell ⟨g, k, none⟩ (.int .u8 63)) g s.size (fun i => if i < k + 1 then cl (L[i]?.getD 0) else L[i]?.getD 0)) := fun h => Lib.hid ((HCC.out.set k hkn 63).mono fun i hi => by
          by_cases e : i = k
          · subst e
            rw [if_pos rfl, if_pos (by omega), ← HX.out]
            exact (if_pos h : cl x = 63).symm
          · rw [if_neg e]
            by_cases e2 : i < k
            · rw [if_pos e2, if_pos (by omega)]
            · rw [if_neg e2, if_neg (by omega)])
        have HNX2 : ¬ (x < 33 ∨ 126 < x) → Hid (CellsAt wr g s.size (fun i => if i < k + 1 then cl (L[i]?.getD 0) else L[i]?.getD 0)) := fun h => Lib.hid (HCC.out.mono fun i hi => by
          by_cases e : i = k
          · subst e
            rw [if_neg (by omega), if_pos (by omega), ← HX.out]
            exact (if_neg h : cl x = x).symm
          · by_cases e2 : i < k
            · rw [if_pos e2, if_pos (by omega)]
            · rw [if_neg e2, if_neg (by omega)])
        clear hcc hold hx hk
        by_cases h33 : x < 33
        · have HNX := HNX1 (.inl h33)
          clear HNX1 HNX2
          go_wp2_with fail
          go_roundw
          case rel => exact ⟨k + 1, by omega, by go_num, HNX.out, HO.out.trans (turn_set _ _ _ _)⟩
          case measure => simp [intOf]; omega
        · by_cases h126 : 126 < x
          · have HNX := HNX1 (.inr h126)
            clear HNX1 HNX2
            go_wp2_with fail
            go_roundw
            case rel => exact ⟨k + 1, by omega, by go_num, HNX.out, HO.out.trans (turn_set _ _ _ _)⟩
            case measure => simp [intOf]; omega
          · have HNX := HNX2 (by omega)
            clear HNX1 HNX2
            go_wp2_with fail
            go_roundw
            case rel => exact ⟨k + 1, by omega, by go_num, HNX.out, HO.out⟩
            case measure => simp [intOf]; omega
      · have hke : k = s.size := by omega
        have hres := HRES.out wr (HCC.out.mono fun i hi => by rw [if_pos (by omega)])
        have HBF := Lib.hid (HB.out.trans (HO.out.at_below HB.out.size HG.out))
        have hkn2 : ¬ (k : Int) < (s.size : Int) := by omega
        clear hcc hold hke
        go_wp2_with fail
        go_ret
        exact ⟨rfl, HBF.out⟩
  · have hle : ¬ s.size ≤ 16 := by omega
    rw [if_neg hle] at hconv
    have hsi : (16 : Int) < s.size := by omega
    clear hle hs16 hn16 hni
    go_enter Try.func68, Try.ntmps68
    go_upto_region 3 with fail
    go_loopw [14] (fun i wr => CleanRel w g 16 L i wr) (fun i _ => 16 - (intOf i).toNat)
    case atStart => exact ⟨0, Nat.zero_le _, rfl, HC.out.mono fun i hi => by rw [if_neg (by omega)], Turn.refl _ _⟩
    case round =>
      obtain ⟨k, hk, rfl, hcc, hold⟩ := hrel
      have HCC := Lib.hid hcc
      have HO := Lib.hid hold
      by_cases hkn : k < 16
      · have d0 : wr.cell? ⟨g, k, none⟩ = some (.int .u8 (L[k]?.getD 0)) := by
          have := (hcc k hkn).1
          simpa using this
        have d1 := (hcc k hkn).2
        obtain ⟨x, hx⟩ : ∃ x, x = L[k]?.getD 0 := ⟨_, rfl⟩
        rw [← hx] at d0
        have HX := Lib.hid hx
        have hkn' : (k : Int) < (16 : Int) := by omega
        have HNX1 : x < 33 ∨ 126 < x → Hid (CellsAt (wr.setCell ⟨g, k, none⟩ (.int .u8 63)) g 16 (fun i => if i < k + 1 then cl (L[i]?.getD 0) else L[i]?.getD 0)) := fun h => Lib.hid ((HCC.out.set k hkn 63).mono fun i hi => by
          by_cases e : i = k
          · subst e
            rw [if_pos rfl, if_pos (by omega), ← HX.out]
            exact (if_pos h : cl x = 63).symm
          · rw [if_neg e]
            by_cases e2 : i < k
            · rw [if_pos e2, if_pos (by omega)]
            · rw [if_neg e2, if_neg (by omega)])
        have HNX2 : ¬ (x < 33 ∨ 126 < x) → Hid (CellsAt wr g 16 (fun i => if i < k + 1 then cl (L[i]?.getD 0) else L[i]?.getD 0)) := fun h => Lib.hid (HCC.out.mono fun i hi => by
          by_cases e : i = k
          · subst e
            rw [if_neg (by omega), if_pos (by omega), ← HX.out]
            exact (if_neg h : cl x = x).symm
          · by_cases e2 : i < k
            · rw [if_pos e2, if_pos (by omega)]
            · rw [if_neg e2, if_neg (by omega)])
        clear hcc hold hx hk
        by_cases h33 : x < 33
        · have HNX := HNX1 (.inl h33)
          clear HNX1 HNX2
          go_wp2_with fail
          go_roundw
          case rel => exact ⟨k + 1, by omega, by go_num, HNX.out, HO.out.trans (turn_set _ _ _ _)⟩
          case measure => simp [intOf]; omega
        · by_cases h126 : 126 < x
          · have HNX := HNX1 (.inr h126)
            clear HNX1 HNX2
            go_wp2_with fail
            go_roundw
            case rel => exact ⟨k + 1, by omega, by go_num, HNX.out, HO.out.trans (turn_set _ _ _ _)⟩
            case measure => simp [intOf]; omega
          · have HNX := HNX2 (by omega)
            clear HNX1 HNX2
            go_wp2_with fail
            go_roundw
            case rel => exact ⟨k + 1, by omega, by go_num, HNX.out, HO.out⟩
            case measure => simp [intOf]; omega
      · have hke : k = 16 := by omega
        have hres := HRES.out wr (HCC.out.mono fun i hi => by rw [if_pos (by omega)])
        have HBF := Lib.hid (HB.out.trans (HO.out.at_below HB.out.size HG.out))
        have hkn2 : ¬ (k : Int) < (16 : Int) := by omega
        clear hcc hold hke
        go_wp2_with fail
        go_ret
        exact ⟨rfl, HBF.out⟩
theorem clean_any (s : ByteArray) (w : World) (hs : s.size ≤ maxLen) : Calls Try.prog 68 #[.string s] w fun e w' => e = .returned (.string (cleaned s)) ∧ Below w.heap.size w w' := by
  by_cases h : s.size ≤ 16
  · obtain ⟨cap, W1, h1, h2, h3, h4⟩ := conv_row s w
    have := clean_row s s.size w.heap.size cap (nums s) w W1 (nums_length s).symm h hs (.inl ⟨rfl, h⟩) (by rw [if_pos h]; exact h1) (Nat.le_refl _) h4 h3 h2
    unfold cleaned cleanL
    rw [List.take_of_length_le (by rw [nums_length]; exact h)]
    exact this
  · obtain ⟨cap, W1, h1, h2, h3, h4⟩ := conv_row (s.extract 0 16) w
    have hsz : (s.extract 0 16).size = 16 := by rw [ByteArray.size_extract]; omega
    have hnm : nums (s.extract 0 16) = (nums s).take 16 := by
      unfold nums
      rw [ByteArray.data_extract, Array.toList_extract, List.map_take]
      simp
    rw [hsz] at h1 h2
    rw [hnm] at h2
    exact clean_row s 16 w.heap.size cap ((nums s).take 16) w W1 (by rw [List.length_take, nums_length]; omega) (Nat.le_refl _) hs (.inr ⟨by omega, rfl⟩) (by rw [if_neg h]; exact h1) (Nat.le_refl _) h4 h3 h2
end Go.Proofs.Ytimidoaafllnkaa.Talk
