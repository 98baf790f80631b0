/-
  The contracts of Feed and Open.
-/
import Derived.Test.YtimidoaafllnkaaDecE
namespace Go.Proofs.Ytimidoaafllnkaa.Iac
open Go.RowKit Base
set_option linter.unusedVariables false

/-! ### How many events, of how many bytes -/
structure Fine (m n : Nat) (r : Dec × List Ev) : Prop where
  state : r.1.state ≤ 4
  kept : r.1.bytes.length ≤ 256
  many : r.2.length ≤ m
  each : ∀ e ∈ r.2, e.bytes.length ≤ 256 + n
theorem keepD_fine (D : Dec) (x : Int) (h : D.bytes.length ≤ 256) : (keepD D x).state = D.state ∧ (keepD D x).bytes.length ≤ 256 := by
  unfold keepD
  split
  · exact ⟨rfl, h⟩
  · split
    · exact ⟨rfl, by simp; omega⟩
    · exact ⟨rfl, h⟩
theorem layL_fine (L : List Ev) (x : Int) (n : Nat) (h : ∀ e ∈ L, e.bytes.length ≤ 256 + n) : (layL L x).length ≤ L.length + 1 ∧ ∀ e ∈ layL L x, e.bytes.length ≤ 256 + (n + 1) := by
  rcases List.eq_nil_or_concat L with rfl | ⟨Q, e, rfl⟩
  · simp [layL]; omega
  · rw [List.concat_eq_append] at h ⊢
    by_cases hk : e.kind = 1
    · rw [layL_data _ _ _ hk]
      refine ⟨by simp, fun f hf => ?_⟩
      rcases List.mem_append.1 hf with hf | hf
      · have := h f (by simp [hf]); omega
      · rw [List.mem_singleton.1 hf]
        have := h e (by simp)
        simp; omega
    · rw [layL_other _ _ _ hk]
      refine ⟨by simp, fun f hf => ?_⟩
      rcases List.mem_append.1 hf with hf | hf
      · have := h f hf; omega
      · rw [List.mem_singleton.1 hf]
        simp; omega
theorem snoc_fine (L : List Ev) (e : Ev) (n : Nat) (h : ∀ e ∈ L, e.bytes.length ≤ 256 + n) (he : e.bytes.length ≤ 256) : ∀ f ∈ L ++ [e], f.bytes.length ≤ 256 + n := fun f hf => by
  rcases List.mem_append.1 hf with hf | hf
  · exact h f hf
  · rw [List.mem_singleton.1 hf]; omega
theorem commandD_fine (D : Dec) (L : List Ev) (x : Int) (n : Nat) (hd : D.bytes.length ≤ 256) (h : ∀ e ∈ L, e.bytes.length ≤ 256 + n) : Fine (L.length + 1) (n + 1) (commandD D L x) := by
  have h1 : ∀ e ∈ L, e.bytes.length ≤ 256 + (n + 1) := fun e he => by have := h e he; omega
  unfold commandD
  split
  · exact ⟨by simp, hd, (layL_fine L x n h).1, (layL_fine L x n h).2⟩
  · split
    · exact ⟨by simp, hd, by simp, snoc_fine L _ _ h1 (by simp)⟩
    · split
      · exact ⟨by simp, by simp, by simp, h1⟩
      · split
        · exact ⟨by simp, hd, by simp, h1⟩
        · exact ⟨by simp, hd, by simp, snoc_fine L _ _ h1 (by simp)⟩
theorem eventE_len (D : Dec) (h : D.bytes.length ≤ 256) : (eventE D).bytes.length ≤ 256 := by
  unfold eventE badE
  split
  · simp
  · exact h
theorem takeD_fine (m n : Nat) (D : Dec) (L : List Ev) (x : Int) (h : Fine m n (D, L)) : Fine (m + 2) (n + 1) (takeD D L x) := by
  obtain ⟨h1, h2, h3, h4⟩ := h
  simp only at h1 h2 h3 h4
  have h5 : ∀ e ∈ L, e.bytes.length ≤ 256 + (n + 1) := fun e he => by have := h4 e he; omega
  have hc : ∀ (L' : List Ev), L'.length ≤ L.length + 1 → (∀ e ∈ L', e.bytes.length ≤ 256 + n) → Fine (m + 2) (n + 1) (commandD D L' x) := fun L' hl hb => by
    have := commandD_fine D L' x n h2 hb
    exact ⟨this.state, this.kept, by have := this.many; omega, this.each⟩
  unfold takeD
  split
  · exact hc L (by omega) h4
  · split
    · exact ⟨by simp, h2, by simp; omega, snoc_fine L _ _ h5 (by simp)⟩
    · split
      · split
        · exact ⟨by simp, h2, by simp; omega, h5⟩
        · have := keepD_fine D x h2
          exact ⟨by rw [this.1]; exact h1, this.2, by simp; omega, h5⟩
      · split
        · unfold markedD
          split
          · have := keepD_fine { D with state := 3 } x h2
            exact ⟨by rw [this.1]; simp, this.2, by simp; omega, h5⟩
          · split
            · exact ⟨by simp, h2, by simp; omega, snoc_fine L _ _ h5 (eventE_len D h2)⟩
            · exact hc _ (by simp) (snoc_fine L _ _ h4 (by simp [badE]))
        · split
          · exact ⟨by simp, h2, by simp; omega, h5⟩
          · have := layL_fine L x n h4
            exact ⟨h1, h2, by have := this.1; simp; omega, this.2⟩
/-- All bytes. -/
def feedD (D : Dec) (L : List Int) : Dec × List Ev := L.foldl (fun r x => takeD r.1 r.2 x) (D, [])
theorem feedD_snoc (D : Dec) (L : List Int) (x : Int) : feedD D (L ++ [x]) = takeD (feedD D L).1 (feedD D L).2 x := by simp [feedD]
theorem foldD_fine (L : List Int) : ∀ (m n : Nat) (r : Dec × List Ev), Fine m n r → Fine (m + 2 * L.length) (n + L.length) (L.foldl (fun r x => takeD r.1 r.2 x) r) := by
  induction L with
  | nil => intro m n r h; exact h
  | cons x L ih =>
    intro m n r h
    have := ih (m + 2) (n + 1) _ (takeD_fine m n r.1 r.2 x h)
    rw [show m + 2 + 2 * L.length = m + 2 * (x :: L).length by simp; omega, show n + 1 + L.length = n + (x :: L).length by simp; omega] at this
    exact this
theorem feedD_fine (D : Dec) (L : List Int) (h1 : D.state ≤ 4) (h2 : D.bytes.length ≤ 256) : Fine (2 * L.length) L.length (feedD D L) := by
  have := foldD_fine L 0 0 (D, []) ⟨h1, h2, by simp, by simp⟩
  rw [Nat.zero_add, Nat.zero_add] at this
  exact this
def FeedRel (s b : Nat) (D : Dec) (L : List Int) (n : Nat) (w : World) (v i : Value) (wr : World) : Prop :=
  ∃ (k : Nat) (P : List EvP), k ≤ n ∧ i = .int .i64 k ∧ DecAt wr b (feedD D (L.take k)).1 ∧ EvsOwn s wr v P ∧ P.map (·.1) = (feedD D (L.take k)).2 ∧ Turn (fun k => k = b ∨ s ≤ k) w wr
set_option maxRecDepth 100000 in
set_option maxHeartbeats 1000000 in
theorem feed_any (b : Nat) (D : Dec) (v : Value) (L : List Int) (w : World) (hd : DecAt w b D) (hst : D.state ≤ 4) (h : RowIn (fun k => k ≠ b) .u8 w v L) (hl : L.length ≤ 40000) :
    Calls Try.prog 62 #[.pointer (some ⟨b, 0, none⟩), v] w (Fed2 w.heap.size b w (feedD D L)) := by
  obtain ⟨s, hs⟩ : ∃ s, s = w.heap.size := ⟨_, rfl⟩
  rw [← hs]
  have hbs : b < s := by rw [hs]; exact hd.lt
  obtain ⟨a, cap, rfl, hrow⟩ := h
  obtain ⟨n, hn⟩ : ∃ n, n = L.length := ⟨_, rfl⟩
  rw [← hn] at hl ⊢
  have HN := Lib.hid hn
  have HR := Lib.hid hrow
  have HS := Lib.hid hs
  have HD := Lib.hid hd
  have HF : Hid (∀ k, k ≤ n → Fine (2 * k) k (feedD D (L.take k))) := Lib.hid fun k hk => by
    have := feedD_fine D (L.take k) hst hd.le
    rw [List.length_take, Nat.min_eq_left (by omega)] at this
    exact this
  clear hn hrow hs hd hst
  go_enter Try.func62, Try.ntmps62
  go_wp2_with fail
  go_loopw [5, 10] (fun v i wr => FeedRel s b D L n w v i wr) (fun _ i _ => n - (intOf i).toNat)
  case atStart => exact ⟨0, [], by omega, rfl, by simpa [feedD] using HD.out, EvsOwn.nil s w, by simp [feedD], Turn.refl _ _⟩
  case round =>
    obtain ⟨k, P, hk, rfl, hD, hE, hP, hT⟩ := hrel
    have hsz : s ≤ wr.heap.size := by have := hT.size; have := HS.out; omega
    by_cases hkn : k < n
    · have hkl : k < L.length := by rw [← HN.out]; exact hkn
      obtain ⟨g, off, rfl, hgb, hgl, hc⟩ := HR.out (by intro e; rw [e] at hkl; simp at hkl)
      have d := hc k hkl
      have hgl : g < w.heap.size := hgl
      have hgb : g ≠ b := hgb
      have d := (cell_block (hT.block g hgl (by have := HS.out; show ¬ (g = b ∨ s ≤ g); omega)) (off + k)).trans d
      obtain ⟨x, hx⟩ : ∃ x, x = L[k]?.getD 0 := ⟨_, rfl⟩
      rw [← hx] at d
      have htk : L.take (k + 1) = L.take k ++ [x] := by
        rw [List.take_succ_eq_append_getElem hkl, hx]
        simp [hkl]
      have hnext : feedD D (L.take (k + 1)) = takeD (feedD D (L.take k)).1 (feedD D (L.take k)).2 x := by rw [htk, feedD_snoc]
      have hfine := HF.out k (by omega)
      have hpl : P.length ≤ 99999 := by
        have := hfine.many
        rw [← hP, List.length_map] at this
        omega
      have hpb : ∀ p ∈ P, p.1.bytes.length ≤ 100000 := fun p hp => by
        have := hfine.each p.1 (by rw [← hP]; exact List.mem_map_of_mem hp)
        omega
      have HNX := Lib.hid hnext
      have HP := Lib.hid hP
      have HPB := Lib.hid hpb
      have HDD := Lib.hid hD
      have HE := Lib.hid hE
      have HT := Lib.hid hT
      have hst := hfine.state
      clear hc hx htk hnext hP hpb hD hE hT hfine hkl hgb hgl
      go_wp2_with fail
      refine (take_any s b _ _ P x wr HDD.out HE.out hst hbs hsz hpl HPB.out).mono ?_
      rw [HP.out, ← HNX.out]
      rintro e w6 ⟨v6, P6, rfl, hD6, hE6, hP6, hT6⟩
      have HD6 := Lib.hid hD6
      have HE6 := Lib.hid hE6
      have HP6 := Lib.hid hP6
      have HT6 := Lib.hid hT6
      clear hD6 hE6 hP6 hT6
      go_wp2_with fail
      go_roundw
      case rel => exact ⟨k + 1, P6, by omega, by go_num, HD6.out, HE6.out, HP6.out, HT.out.trans HT6.out⟩
      case measure => simp [intOf]; omega
    · obtain rfl : n = k := by omega
      rw [List.take_of_length_le (by rw [← HN.out]; exact Nat.le_refl _)] at hD hP
      have HP := Lib.hid hP
      have HDD := Lib.hid hD
      have HE := Lib.hid hE
      have HT := Lib.hid hT
      clear hP hD hE hT
      go_wp2_with fail
      go_ret
      exact ⟨_, P, rfl, HDD.out, HE.out, HP.out, HT.out⟩
theorem open_any {b : Nat} {D : Dec} {w : World} (h : DecAt w b D) : Calls Try.prog 63 #[.pointer (some ⟨b, 0, none⟩)] w fun e w' => e = .returned (.bool (D.state != 0)) ∧ w = w' := by
  obtain ⟨c0, _⟩ := h.cell
  by_cases h0 : D.state = 0
  · rw [h0] at c0 ⊢
    clear h0
    go_enter Try.func63, Try.ntmps63
    go_wp2
    go_ret
    exact ⟨rfl, rfl⟩
  · obtain ⟨n, hn⟩ : ∃ n, n = D.state := ⟨_, rfl⟩
    rw [← hn] at c0 h0 ⊢
    have t : ((n : Int) != 0) = true := by simp; exact h0
    have t2 : (n != 0) = true := by simp; exact h0
    rw [t2]
    clear hn t2 h0
    go_enter Try.func63, Try.ntmps63
    go_wp2
    go_ret
    exact ⟨rfl, rfl⟩
end Go.Proofs.Ytimidoaafllnkaa.Iac
