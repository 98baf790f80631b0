/-
  Texts and bytes, plainly: what a text of bytes that are seen has as bytes, and the other way round. No run of the program.
-/
import Derived.Test.YtpmcpllcfmgpgaaCodeJ
import Derived.Lib.MapLaws
namespace Go.Proofs.Ytpmcpllcfmgpgaa.Code
open Go.RowKit Go.Shelf Go.Maps
set_option linter.unusedVariables false

def Seen (L : List Int) : Prop := ∀ x ∈ L, 64 ≤ x ∧ x ≤ 254
theorem Seen.bytes {L : List Int} (h : Seen L) : IsBytes L := fun x hx => by have := h x hx; omega
theorem Seen.append {A B : List Int} (ha : Seen A) (hb : Seen B) : Seen (A ++ B) := fun x hx => by
  rcases List.mem_append.1 hx with h | h
  · exact ha x h
  · exact hb x h

/-- A text as bytes, over its bytes as a list. -/
def btl (page : Int) : Nat → List UInt8 → Option (List Int)
  | 0, _ => some []
  | f + 1, l => if l = [] then some [] else (if good page (Lib.decodeL l).1 = true then (btl page f (l.drop (Lib.decodeL l).2)).map (byt page (Lib.decodeL l).1 :: ·) else none)
theorem btl_nil (page : Int) : ∀ f, btl page f [] = some []
  | 0 => rfl
  | f + 1 => by unfold btl; rw [if_pos rfl]
theorem bts_btl (page : Int) (s : ByteArray) : ∀ f pos, bts page s f pos = btl page f (s.data.toList.drop pos)
  | 0, _ => rfl
  | f + 1, pos => by
    have hsz : s.data.toList.length = s.size := by rw [Array.length_toList]; rfl
    unfold bts btl
    by_cases h : pos < s.size
    · have hne : s.data.toList.drop pos ≠ [] := by
        intro e
        have := congrArg List.length e
        rw [List.length_drop, hsz] at this
        simp at this; omega
      rw [if_pos h, if_neg hne, Lib.decodeL_drop, bts_btl page s f, List.drop_drop]
    · have he : s.data.toList.drop pos = [] := List.drop_eq_nil_of_le (by rw [hsz]; omega)
      rw [if_neg h, if_pos he]
theorem bytesOf_eq (page : Int) (s : ByteArray) : bytesOf page s = btl page s.data.toList.length s.data.toList := by
  have hsz : s.data.toList.length = s.size := by rw [Array.length_toList]; rfl
  unfold bytesOf
  rw [bts_btl, hsz]; rfl

theorem decode_low (b : UInt8) (t : List UInt8) (h : b.toNat < 128) : Lib.decodeL (b :: t) = (b.toNat, 1) := by
  rw [Lib.decodeL_N]
  have g0 : (b :: t).getD 0 0 = b := rfl
  rw [g0]
  unfold Lib.decodeN
  rw [if_pos h]
/-- The bytes of a sign up to FF, and what is decoded of them. -/
theorem decode_piece (y : Int) (h0 : 0 ≤ y) (h1 : y ≤ 255) (t : List UInt8) : Lib.decodeL (Lib.encodeRune y ++ t) = (y.toNat, (Lib.encodeRune y).length) ∧ 1 ≤ (Lib.encodeRune y).length := by
  obtain ⟨n, rfl⟩ : ∃ n : Nat, y = n := ⟨y.toNat, by omega⟩
  by_cases h : n < 128
  · have e : Lib.encodeRune (n : Int) = [UInt8.ofNat n] := by
      unfold Lib.encodeRune; rw [Lib.encodeRuneZ_one (by omega) (by omega)]; simp
    have hb : (UInt8.ofNat n).toNat = n := by rw [UInt8.toNat_ofNat']; omega
    rw [e]
    refine ⟨?_, by simp⟩
    have := decode_low (UInt8.ofNat n) t (by rw [hb]; exact h)
    simp only [List.cons_append, List.nil_append, List.length_cons, List.length_nil]
    rw [this, hb]; simp
  · have e : Lib.encodeRune (n : Int) = [UInt8.ofNat (192 + n / 64), UInt8.ofNat (128 + n % 64)] := by
      unfold Lib.encodeRune; rw [Lib.encodeRuneZ_two (by omega) (by omega)]
      simp only [List.map_cons, List.map_nil]
      have a1 : (192 + (n : Int) / 64).toNat = 192 + n / 64 := by omega
      have a2 : (128 + (n : Int) % 64).toNat = 128 + n % 64 := by omega
      rw [a1, a2]
    have c0 : (UInt8.ofNat (192 + n / 64)).toNat = 192 + n / 64 := by rw [UInt8.toNat_ofNat']; omega
    have c1 : (UInt8.ofNat (128 + n % 64)).toNat = 128 + n % 64 := by rw [UInt8.toNat_ofNat']; omega
    rw [e]
    refine ⟨?_, by simp⟩
    rw [Lib.decodeL_N]
    simp only [List.cons_append, List.nil_append, List.length_cons, List.length_nil]
    have g0 : (UInt8.ofNat (192 + n / 64) :: UInt8.ofNat (128 + n % 64) :: t).getD 0 0 = UInt8.ofNat (192 + n / 64) := rfl
    have g1 : (UInt8.ofNat (192 + n / 64) :: UInt8.ofNat (128 + n % 64) :: t).getD 1 0 = UInt8.ofNat (128 + n % 64) := rfl
    rw [g0, g1, c0, c1]
    unfold Lib.decodeN
    rw [if_neg (by omega), if_pos (by omega), if_pos (by omega)]
    have e1 : (192 + n / 64) % 32 * 64 + (128 + n % 64) % 64 = n := by omega
    rw [e1]; simp

theorem good_sgn (page x : Int) (h : 64 ≤ x ∧ x ≤ 254) : good page (sgn page x) = true ∧ byt page (sgn page x) = x := by
  obtain ⟨h1, h2⟩ := byt_sgn page x (by omega) (by omega)
  refine ⟨?_, h1⟩
  unfold good
  rw [h2, h1, decide_eq_true h]; rfl
theorem piece_seen (page x : Int) (h : 64 ≤ x ∧ x ≤ 254) : piece page x = Lib.encodeRune (sgn page x) := by unfold piece; rw [if_pos h]
theorem textOf_cons (page x : Int) (L : List Int) : textOf page (x :: L) = piece page x ++ textOf page L := by simp [textOf]
theorem textOf_append (page : Int) (A B : List Int) : textOf page (A ++ B) = textOf page A ++ textOf page B := by simp [textOf]

/-- Bytes that are seen, as a text, as bytes, are these again. -/
theorem btl_text (page : Int) : ∀ (L : List Int) (f : Nat), Seen L → (textOf page L).length ≤ f → btl page f (textOf page L) = some L
  | [], f, _, _ => by rw [textOf_nil, btl_nil]
  | x :: L, f, hs, hf => by
    have hx := hs x (List.mem_cons_self ..)
    have hsb := sgn_bd page x
    obtain ⟨hd, hl⟩ := decode_piece (sgn page x) hsb.1 hsb.2 (textOf page L)
    rw [textOf_cons, piece_seen page x hx] at hf ⊢
    rw [List.length_append] at hf
    obtain ⟨f', rfl⟩ : ∃ f', f = f' + 1 := ⟨f - 1, by omega⟩
    have hne : Lib.encodeRune (sgn page x) ++ textOf page L ≠ [] := by
      intro e; have := congrArg List.length e; rw [List.length_append, List.length_nil] at this; omega
    obtain ⟨g1, g2⟩ := good_sgn page x hx
    have er : (((sgn page x).toNat : Nat) : Int) = sgn page x := by omega
    unfold btl
    rw [if_neg hne, hd]
    dsimp only
    have hf2 : (textOf page L).length ≤ f' := by
      have hl' : 1 ≤ (Lib.encodeRune (sgn page x)).length := hl
      omega
    rw [er, if_pos g1, g2, List.drop_left, btl_text page L f' (fun y hy => hs y (List.mem_cons_of_mem _ hy)) hf2]
    rfl
theorem bytesOf_text (page : Int) (L : List Int) (hs : Seen L) : bytesOf page ⟨(textOf page L).toArray⟩ = some L := by
  rw [bytesOf_eq]
  exact btl_text page L _ hs (Nat.le_refl _)

/-- A text that has bytes is, as a text of these, itself. -/
theorem text_btl (page : Int) : ∀ (f : Nat) (l : List UInt8) (M : List Int), l.length ≤ f → btl page f l = some M → textOf page M = l
  | 0, l, M, hf, h => by
    have : l = [] := List.eq_nil_of_length_eq_zero (by omega)
    subst this
    simp [btl] at h; subst h; rfl
  | f + 1, l, M, hf, h => by
    unfold btl at h
    by_cases hl : l = []
    · rw [if_pos hl] at h; cases h; rw [hl]; rfl
    · rw [if_neg hl] at h
      by_cases hg : good page (Lib.decodeL l).1 = true
      · rw [if_pos hg] at h
        obtain ⟨M', hM', rfl⟩ := Option.map_eq_some_iff.1 h
        have hw := Lib.decodeL_width l
        have hpos : 0 < l.length := List.length_pos_iff.2 hl
        have ih := text_btl page f _ M' (by rw [List.length_drop]; omega) hM'
        simp only [good, Bool.and_eq_true, decide_eq_true_eq] at hg
        obtain ⟨hh, hb⟩ := hg
        have hr : ¬ ((Lib.decodeL l).1 = 65533 ∧ (Lib.decodeL l).2 = 1) := by
          rintro ⟨e, _⟩
          rw [e] at hh
          have := (hasb_far page 65533 (.inr (by decide))).1
          rw [show (((65533 : Nat)) : Int) = 65533 from rfl, this] at hh
          cases hh
        rw [textOf_cons, ih, piece_seen page _ hb, sgn_byt page _ hh, Lib.encode_decode l hl hr, List.take_append_drop]
      · rw [if_neg hg] at h; cases h
theorem text_bytesOf (page : Int) (s : ByteArray) (M : List Int) (h : bytesOf page s = some M) : (⟨(textOf page M).toArray⟩ : ByteArray) = s ∧ Seen M := by
  have hs : Seen M := bts_bytes page s _ _ M h
  rw [bytesOf_eq] at h
  have := text_btl page _ _ M (Nat.le_refl _) h
  rw [this]
  exact ⟨rfl, hs⟩

/-- Two texts, one behind the other. -/
theorem bytesOf_append (page : Int) (s t : ByteArray) (A B : List Int) (hs : bytesOf page s = some A) (ht : bytesOf page t = some B) : bytesOf page (s ++ t) = some (A ++ B) := by
  obtain ⟨e1, s1⟩ := text_bytesOf page s A hs
  obtain ⟨e2, s2⟩ := text_bytesOf page t B ht
  have : s ++ t = ⟨(textOf page (A ++ B)).toArray⟩ := by
    rw [textOf_append, ← e1, ← e2]
    apply ByteArray.ext
    simp
  rw [this, bytesOf_text page _ (s1.append s2)]

/-- What is decoded of a byte's piece of a text. -/
theorem decode_text (page x : Int) (hx : 0 ≤ x ∧ x ≤ 255) (t : List UInt8) : (Lib.decodeL (piece page x ++ t)).2 = (piece page x).length ∧ 1 ≤ (piece page x).length := by
  unfold piece
  split
  · have hsb := sgn_bd page x
    obtain ⟨h1, h2⟩ := decode_piece (sgn page x) hsb.1 hsb.2 t
    rw [h1]; exact ⟨rfl, h2⟩
  · have := decode_low 32 t (by decide)
    simp only [List.cons_append, List.nil_append, List.length_cons, List.length_nil]
    rw [this]; exact ⟨rfl, by decide⟩

/-- The row of numbers that an argument is. -/
theorem rowOf_open {W : World} {x : Addr} {len cap : Nat} {zs : List Int} (hl : len ≤ cap) (hm : cap ≤ maxLen) (hz : zs.length = cap) (hcell : ∀ i, i < zs.length → W.cell? (x.add i) = some (.int .u8 (zs.getD i 0))) (hwz : ∀ n ∈ zs, (Lit.int .u8 n).wf = true) :
    ∃ L : List Int, RowOf .u8 W (.slice (some x) len cap) L ∧ L.length ≤ maxLen ∧ IsBytes L := by
  have hlen : (zs.take len).length = len := by rw [List.length_take]; omega
  refine ⟨zs.take len, ?_, by omega, fun n hn => u8_bd (hwz n (List.mem_of_mem_take hn))⟩
  refine ⟨some x, cap, by rw [hlen], fun hne => ?_⟩
  have h0 : 0 < len := by
    rcases Nat.eq_zero_or_pos len with h | h
    · subst h; simp at hne
    · exact h
  obtain ⟨b, off, spot⟩ := x
  have hc := hcell 0 (by omega)
  have hspot : spot = none := by simpa [Addr.add] using World.cell?_spot hc
  subst hspot
  refine ⟨b, off, rfl, fun i hi => ?_⟩
  have hi2 : i < len := by omega
  have h1 := hcell i (by omega)
  have e : (Addr.mk b off none).add i = ⟨b, off + i, none⟩ := by
    unfold Addr.add; split <;> simp_all
  rw [e] at h1
  rw [h1, List.getElem?_take_of_lt hi2]
  rfl
theorem rowOf_none {W : World} : ∃ L : List Int, RowOf .u8 W (.slice none 0 0) L ∧ L.length ≤ maxLen ∧ IsBytes L :=
  ⟨[], ⟨none, 0, rfl, fun h => absurd rfl h⟩, Nat.zero_le _, fun _ h => absurd h (by simp)⟩

end Go.Proofs.Ytpmcpllcfmgpgaa.Code
