/-
  What is seen of a field (of one that has no more cells than there are).
-/
import Derived.Test.YtgjhboikfbafcaaFlM
import Derived.Test.YtgjhboikfbafcaaPlI
namespace Go.Proofs.Ytgjhboikfbafcaa.Pl
open Go.RowKit Go.Shelf Base
set_option linter.unusedVariables false
set_option linter.unusedSimpArgs false

def ftextL (page : Int) (L : List Cl) (f : Fd) : List UInt8 := if f.a / 4 % 4 = 3 then List.replicate f.k.toNat 32 else if 0 < f.k then textL page L (mv L.length f.s 1) f.k else []
theorem repeat_blank (n : Nat) : Lib.repeatL [32] n = List.replicate n 32 := by
  induction n with
  | zero => rfl
  | succ n ih => show [32] ++ Lib.repeatL [32] n = _; rw [ih]; rfl
theorem repeat_k (k : Int) (w : World) (h0 : 0 ≤ k) (h1 : k ≤ 4096) : Calls Try.prog 59 #[.string ⟨#[32]⟩, .int .i64 (max k 0)] w fun e w' => e = .returned (.string ⟨(List.replicate k.toNat 32).toArray⟩) ∧ Below w.heap.size w w' := by
  have h := Try.strings_Repeat ⟨#[32]⟩ k.toNat w (by omega) (by show 1 * k.toNat ≤ _; omega)
  rw [show ((⟨#[32]⟩ : ByteArray).data.toList) = [32] from rfl, repeat_blank, Int.toNat_of_nonneg h0] at h
  rw [show max k 0 = k by omega]
  exact h
/-- While it is put together: the plane, the field's block, the builder with what is there. -/
structure FtQ (w : World) (b g : Nat) (r c cur : Int) (L : List Cl) (f : Fd) (l : List UInt8) (W : World) : Prop where
  pl : PlAt W b g r c cur L
  fb : W.heap[w.heap.size]? = some (.cells #[.int .i64 f.s, .int .i64 f.k, .int .u8 f.a] 39 (0, 0))
  bd : ∃ G, Bd W (w.heap.size + 1) G l ∧ ∀ k, G = some k → w.heap.size ≤ k
  old : Below w.heap.size w W
  lb : b < w.heap.size
  lg : g < w.heap.size
section
variable {w W W' : World} {b g : Nat} {r c cur : Int} {L : List Cl} {f : Fd} {l : List UInt8}
theorem FtQ.below (h : FtQ w b g r c cur L f l W) (t : Below W.heap.size W W') : FtQ w b g r c cur L f l W' := by
  obtain ⟨G, hB, hG⟩ := h.bd
  exact ⟨h.pl.below t, (t.block _ (lt_of_block h.fb)).trans h.fb, ⟨G, hB.below t, hG⟩, h.old.trans (t.mono h.old.size), h.lb, h.lg⟩
theorem FtQ.write (h : FtQ w b g r c cur L f l W) (s : List UInt8) (hb : l.length + s.length ≤ 100000000000000) :
    Calls Try.prog 60 #[.pointer (some ⟨w.heap.size + 1, 0, none⟩), .string ⟨s.toArray⟩] W fun e W' => (∃ v, e = .returned v) ∧ FtQ w b g r c cur L f (l ++ s) W' := by
  obtain ⟨G, hB, hG⟩ := h.bd
  have hw := writeString_b hB ⟨s.toArray⟩ (by rw [show (ByteArray.mk s.toArray).size = s.length from by simp [ByteArray.size]]; omega)
  refine hw.mono ?_
  rintro e W2 ⟨hv, G2, hB2, t, hG2⟩
  have hlb := h.lb
  have hlg := h.lg
  have hGg : ∀ k, BT (w.heap.size + 1) G k → w.heap.size ≤ k := by
    rintro k (rfl | e)
    · omega
    · exact hG k e
  have hGf : ¬ BT (w.heap.size + 1) G w.heap.size := by
    rintro (e | e)
    · omega
    · obtain ⟨p, v, _, _, h2, h3, _⟩ := hB
      obtain ⟨cs, e'⟩ := row_typed h2 w.heap.size (h3.trans e)
      rw [h.fb] at e'; cases e'
  refine ⟨hv, h.pl.turn t (fun k => by have := hGg _ k; omega) (fun k => by have := hGg _ k; omega), (t.block _ (lt_of_block h.fb) hGf).trans h.fb, ⟨G2, ?_, ?_⟩, h.old.trans (t.below h.old.size hGg), hlb, hlg⟩
  · simpa using hB2
  · intro k hk
    rcases hG2 with e | ⟨k', e, h'⟩
    · exact hG k (by rw [← e]; exact hk)
    · rw [e] at hk; cases hk; have := h.old.size; omega
theorem FtQ.string (h : FtQ w b g r c cur L f l W) : Calls Try.prog 62 #[.pointer (some ⟨w.heap.size + 1, 0, none⟩)] W fun e W' => e = .returned (.string ⟨l.toArray⟩) ∧ Below w.heap.size w W' := by
  obtain ⟨G, hB, hG⟩ := h.bd
  have hB2' := hB.isB (s := w.heap.size) (by omega) hG
  exact (Try.Builder_String_any_k w.heap.size (w.heap.size + 1) _ W hB2' h.old.size).mono fun _ _ ⟨he, _, hb, _⟩ => ⟨he, h.old.trans hb⟩
end
theorem fsignL_le (page : Int) (x : Cl) (h : x.Ok) : (signL page x).length ≤ 4 := by
  unfold signL
  split
  · simp
  · split
    · rw [geL_length x.b h.1.1 h.1.2]; omega
    · exact Code.piece_le page x.b
theorem ftextC_le (page : Int) : ∀ P : List Cl, (∀ x ∈ P, x.Ok) → (textC page P).length ≤ 4 * P.length
  | [], _ => by simp [textC]
  | x :: P, h => by
    have h1 := fsignL_le page x (h x (by simp))
    have h2 := ftextC_le page P (fun y hy => h y (by simp [hy]))
    simp only [textC, List.flatMap_cons, List.length_append, List.length_cons] at h2 ⊢
    omega
theorem fcellsL_ok {L : List Cl} (h : OkL L) (from_ n : Int) : ∀ x ∈ cellsL L from_ n, x.Ok := by
  intro x hx
  rw [← cellsO_val h] at hx
  obtain ⟨y, _, rfl⟩ := List.mem_map.1 hx
  exact y.2
theorem fcellsL_le {L : List Cl} (hm : L.length ≤ 4096) (from_ n : Int) : (cellsL L from_ n).length ≤ 4096 := by
  unfold cellsL
  split
  · simp
  · rw [List.length_map]; exact betw_length _ _ _ (by omega)
theorem ftextL_le {L : List Cl} (h : OkL L) (hm : L.length ≤ 4096) (page from_ n : Int) : (textL page L from_ n).length ≤ 16384 := by
  have h1 := ftextC_le page _ (fcellsL_ok h from_ n)
  have h2 := fcellsL_le hm from_ n
  unfold textL
  omega
set_option maxHeartbeats 1000000 in
theorem ftext_any {w : World} {b g : Nat} {r c cur : Int} {L : List Cl} (h : PlAt w b g r c cur L) (hok : OkL L) (page : Int) (f : Fd) (hin : inL L.length f.s = true) (hk0 : 0 ≤ f.k) (hk : f.k ≤ L.length) (hfa : 0 ≤ f.a ∧ f.a ≤ 255) :
    Calls Try.prog 19 #[.pointer (some ⟨b, 0, none⟩), .int .i64 page, f.val] w fun e W => e = .returned (.string ⟨(ftextL page L f).toArray⟩) ∧ Below w.heap.size w W := by
  have hm := h.most
  have hp := h.pos
  have hlb := h.lt
  have hlg := h.ltg
  obtain ⟨W0, hW0⟩ : ∃ W0, W0 = w.alloc (.cells #[.int .i64 f.s, .int .i64 f.k, .int .u8 f.a] 39) := ⟨_, rfl⟩
  have H0 := Lib.hid (show PlAt W0 b g r c cur L by rw [hW0]; exact h.alloc _)
  have B0 := Lib.hid (show Below w.heap.size w W0 by rw [hW0]; exact below_alloc w _)
  have hn0 : W0.heap[w.heap.size]? = some (.cells #[.int .i64 f.s, .int .i64 f.k, .int .u8 f.a] 39 (0, 0)) := by rw [hW0]; exact heap_alloc_new w _
  have hs0 : W0.heap.size = w.heap.size + 1 := by rw [hW0]; simp
  have q0 : W0.cell? ⟨w.heap.size, 0, none⟩ = some (.int .i64 f.s) := by simp [World.cell?, hn0]
  have q1 : W0.cell? ⟨w.heap.size, 1, none⟩ = some (.int .i64 f.k) := by simp [World.cell?, hn0]
  have q2 : W0.cell? ⟨w.heap.size, 2, none⟩ = some (.int .u8 f.a) := by simp [World.cell?, hn0]
  have HN0 := Lib.hid hn0
  have HW0 := Lib.hid hW0.symm
  have HIN := Lib.hid hin
  have HN := Lib.hid H0.out.n
  clear hW0 h hn0 hin
  obtain ⟨fs, fk, fa⟩ := f
  simp only at q0 q1 q2 hk0 hk hfa HIN HW0 HN0 ⊢
  by_cases hsh : fa / 4 % 4 = 3
  · have hsb : (fa / 4 % 4 == 3) = true := by simpa using hsh
    have HR := Lib.hid (show ftextL page L ⟨fs, fk, fa⟩ = List.replicate fk.toNat 32 by unfold ftextL; rw [if_pos hsh])
    obtain ⟨z, hz⟩ : ∃ z, z = fa / 4 % 4 := ⟨_, rfl⟩
    have HZ := Lib.hid hz
    rw [← hz] at hsb
    clear hsh hz
    go_enter Try.func19, Try.ntmps19
    go_wp2_with fail
    rw [HW0.out]
    go_wp2_with (first
      | (go_at_call 57; refine (fhas_any HN.out fs).mono ?_; rintro e w1 ⟨he, rfl⟩; rw [HIN.out] at he; subst he)
      | (go_at_call 58; refine (Attr.shown_any fa _ hfa.1 hfa.2).mono ?_; rintro e w1 ⟨he, rfl⟩; rw [← HZ.out] at he; subst he)
      | (go_at_call 59; (with_reducible refine (repeat_k fk _ hk0 (by omega)).mono ?_); rintro e w1 ⟨rfl, hb1⟩))
    go_ret
    exact ⟨by rw [HR.out]; simp, B0.out.trans (hb1.mono (by omega))⟩
  · obtain ⟨T, hT⟩ : ∃ T, T = textL page L (mv L.length fs 1) fk := ⟨_, rfl⟩
    have HT := Lib.hid hT
    have HR := Lib.hid (show ftextL page L ⟨fs, fk, fa⟩ = if 0 < fk then T else [] by unfold ftextL; rw [if_neg hsh, hT])
    obtain ⟨z, hz⟩ : ∃ z, z = fa / 4 % 4 := ⟨_, rfl⟩
    have HZ := Lib.hid hz
    rw [← hz] at hsh
    have hsb : (z == 3) = false := by simpa using hsh
    have hTl : T.length ≤ 100000000 := by rw [hT]; have := ftextL_le hok hm page (mv L.length fs 1) fk; omega
    have hq : FtQ w b g r c cur L ⟨fs, fk, fa⟩ [] (W0.alloc (.cells #[.pointer none, .slice none 0 0] 98)) := by
      refine ⟨H0.out.alloc _, (Below.heap_alloc _ _ _ (by omega)).trans HN0.out, ⟨none, ?_, by simp⟩, B0.out.alloc (by omega) _, hlb, hlg⟩
      have := Bd.fresh W0
      rw [hs0] at this; exact this
    have HQ := Lib.hid hq
    obtain ⟨n, hn⟩ : ∃ n, n = L.length := ⟨_, rfl⟩
    have HNN := Lib.hid hn
    rw [← hn] at hm hp hk
    clear hsh hz hT hq hn
    go_enter Try.func19, Try.ntmps19
    go_wp2_with fail
    rw [HW0.out]
    go_wp2_with (first
      | (go_at_call 57; refine (fhas_any HN.out fs).mono ?_; rintro e w1 ⟨he, rfl⟩; rw [HIN.out] at he; subst he)
      | (go_at_call 58; refine (Attr.shown_any fa _ hfa.1 hfa.2).mono ?_; rintro e w1 ⟨he, rfl⟩; rw [← HZ.out] at he; subst he))
    go_loopw [8] (fun p wr => ∃ x, p = .int .i64 x ∧ Hid ((x = fk ∧ FtQ w b g r c cur L ⟨fs, fk, fa⟩ [] wr) ∨ (x = fk - n ∧ 0 < fk ∧ FtQ w b g r c cur L ⟨fs, fk, fa⟩ T wr))) (fun p _ => (intOf p).toNat)
    case atStart => exact ⟨fk, rfl, Lib.hid (.inl ⟨rfl, HQ.out⟩)⟩
    case round =>
      obtain ⟨x, rfl, hx⟩ := hrel
      clear q0 q1 q2
      rcases hx.out with ⟨hxk, hQ⟩ | ⟨hxk, hk1, hQ⟩
      · have HQ1 := Lib.hid hQ
        have HXK := Lib.hid hxk
        have HLEN := Lib.hid (len_any hQ.pl)
        rw [← HNN.out] at HLEN
        have q0 : wr.cell? ⟨w.heap.size, 0, none⟩ = some (.int .i64 fs) := by simp [World.cell?, hQ.fb]
        have q1 : wr.cell? ⟨w.heap.size, 1, none⟩ = some (.int .i64 fk) := by simp [World.cell?, hQ.fb]
        have q2 : wr.cell? ⟨w.heap.size, 2, none⟩ = some (.int .u8 fa) := by simp [World.cell?, hQ.fb]
        clear hx hQ
        by_cases hk1 : 0 < fk
        · have hx0 : 0 < x := by omega
          have hx1 : x ≤ n := by omega
          clear hxk
          go_wp2_with (first
            | (go_at_call 52; (with_reducible refine (ffirst_any HQ1.out.pl ⟨fs, fk, fa⟩).mono ?_); rintro e w1 ⟨rfl, hb1⟩; have HQ2 := Lib.hid (HQ1.out.below hb1); clear hb1)
            | (go_at_call 61; refine (text_any HQ2.out.pl hok page (mv L.length fs 1) x).mono ?_; rintro e w2 ⟨he, hb2⟩; rw [HXK.out, ← HT.out] at he; subst he; have HQ3 := Lib.hid (HQ2.out.below hb2); clear hb2)
            | (go_at_call 60; refine (HQ3.out.write T (by simp; omega)).mono ?_; rintro e w3 ⟨⟨v3, rfl⟩, hQ4⟩; have HQ4 := Lib.hid hQ4; have HL4 := Lib.hid (len_any hQ4.pl); rw [← HNN.out] at HL4; clear hQ4)
            | (go_at_call 39; refine HL4.out.mono ?_; rintro e w4 ⟨rfl, rfl⟩))
          go_roundw
          case rel => exact ⟨x - n, rfl, Lib.hid (.inr ⟨by rw [HXK.out], hk1, by simpa using HQ4.out⟩)⟩
          case measure => simp only [intOf]; omega
        · have HR2 := Lib.hid (show ftextL page L ⟨fs, fk, fa⟩ = [] by rw [HR.out, if_neg hk1])
          have hx0 : x ≤ 0 := by omega
          clear hxk
          go_wp2_with (go_at_call 62; refine HQ1.out.string.mono ?_; rintro e w1 ⟨rfl, hb1⟩)
          go_ret
          exact ⟨by rw [HR2.out]; rfl, hb1⟩
      · have HQ1 := Lib.hid hQ
        have HR2 := Lib.hid (show ftextL page L ⟨fs, fk, fa⟩ = T by rw [HR.out, if_pos hk1])
        have hx0 : x ≤ 0 := by omega
        clear hx hQ hxk
        go_wp2_with (go_at_call 62; refine HQ1.out.string.mono ?_; rintro e w1 ⟨rfl, hb1⟩)
        go_ret
        exact ⟨by rw [HR2.out]; rfl, hb1⟩
end Go.Proofs.Ytgjhboikfbafcaa.Pl
