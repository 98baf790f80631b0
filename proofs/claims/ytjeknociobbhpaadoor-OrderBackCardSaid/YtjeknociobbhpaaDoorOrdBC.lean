/-
  What is written is small, and is bytes: plainly.
-/
import Derived.Test.YtjeknociobbhpaaDoorOrdBB
namespace Go.Proofs.YtjeknociobbhpaaDoor.Ord
open Go.RowKit Base
set_option linter.unusedVariables false
set_option linter.unusedSimpArgs false

theorem chk_sf {o : Or} {n : Int} (h : chkO o n = 0) (hk : o.kind = 29) : o.byte < 64 := by
  have := (chk_all h).sh
  rw [hk] at this
  simp [shnM] at this
  omega
def psum (L : List Or) : Nat := (L.map fun o => o.pairs.length).sum
theorem encT_len (o : Or) : (encT o).length ≤ 2 + 2 * o.pairs.length := by
  unfold encT
  repeat' split
  all_goals simp [flatI_len]
  all_goals omega
theorem encO_len (o : Or) (n : Int) : (encO o n).length ≤ 5 + 2 * o.pairs.length + o.data.length := by
  have := encT_len o
  unfold encO
  repeat' split
  all_goals simp
  all_goals omega
theorem wBytes_cons (o : Or) (os : List Or) (n : Int) : wBytes (o :: os) n = encO o n ++ wBytes os n := by simp [wBytes]
theorem wBytes_sum (n : Int) : ∀ (os : List Or), (wBytes os n).length ≤ 5 * os.length + 2 * psum os + dsum os
  | [] => by simp [wBytes]
  | o :: os => by
    have h1 := wBytes_sum n os
    have h2 := encO_len o n
    rw [wBytes_cons, List.length_append]
    simp only [psum, dsum, List.map_cons, List.sum_cons, List.length_cons] at h1 ⊢
    omega
theorem sum_le (f : Or → Nat) (m : Nat) : ∀ (os : List Or), (∀ o ∈ os, f o ≤ m) → (os.map f).sum ≤ m * os.length
  | [], _ => by simp
  | o :: os, h => by
    have h1 := sum_le f m os fun p hp => h p (by simp [hp])
    have h2 := h o (by simp)
    simp only [List.map_cons, List.sum_cons, List.length_cons, Nat.mul_add, Nat.mul_one]
    omega
/-- What has few orders, each of which is small, is written small. -/
theorem wBytes_few (n : Int) (os : List Or) (h : os.length ≤ 40) (hs : ∀ o ∈ os, o.pairs.length ≤ 300 ∧ o.data.length ≤ 300) : (wBytes os n).length ≤ 100000 := by
  have h1 := wBytes_sum n os
  have h2 := sum_le (fun o => o.pairs.length) 300 os fun o ho => (hs o ho).1
  have h3 := sum_le (fun o => o.data.length) 300 os fun o ho => (hs o ho).2
  unfold psum dsum at h1
  omega
theorem Tr.psum {L : List Int} {i n : Nat} {os : List Or} {g : Option Flt} (t : Tr L i os n g) : Ord.psum os + i ≤ n := by
  induction t with
  | stop h => simp [Ord.psum]
  | bad h e => simp [Ord.psum]
  | @step i j n o os g h e t ih =>
    obtain ⟨a1, a2, a3, a4⟩ := orderM_len h e
    simp only [Ord.psum, List.map_cons, List.sum_cons] at ih ⊢
    omega
def By (x : Int) : Prop := 0 ≤ x ∧ x < 256
def Pby (o : Or) : Prop := ∀ p ∈ o.pairs, By p.1 ∧ By p.2
theorem dig_by (x : Int) (h0 : 0 ≤ x) (h1 : x < 64) : By (Dig.dig x) := by
  unfold Dig.dig By
  split <;> omega
theorem encA_by (p n : Int) : By (Dig.encA p n) := by
  unfold Dig.encA
  split
  · exact ⟨by omega, by omega⟩
  · split
    · exact dig_by _ (by omega) (by omega)
    · exact ⟨by omega, by omega⟩
theorem encB_by (p n : Int) : By (Dig.encB p n) := by
  unfold Dig.encB
  split
  · exact ⟨by omega, by omega⟩
  · split
    · exact dig_by _ (by omega) (by omega)
    · exact ⟨by omega, by omega⟩
theorem flatI_by {ps : List (Int × Int)} (h : ∀ p ∈ ps, By p.1 ∧ By p.2) : ∀ x ∈ flatI ps, By x := by
  intro x hx
  unfold flatI at hx
  obtain ⟨p, hp, hx⟩ := List.mem_flatMap.1 hx
  have := h p hp
  simp at hx
  rcases hx with rfl | rfl
  · exact this.1
  · exact this.2
structure Wby (o : Or) : Prop where
  kd : By o.kind
  b : By o.byte
  ps : Pby o
  pl : o.pairs.length ≤ 255
  dt : ∀ x ∈ o.data, By x
theorem encT_by {o : Or} (h : Wby o) : ∀ x ∈ encT o, By x := by
  intro x hx
  have hpl : By (o.pairs.length : Int) := ⟨by omega, by have := h.pl; omega⟩
  have h8 : By 8 := ⟨by omega, by omega⟩
  have hdg : By (Dig.dig (o.byte % 64)) := dig_by _ (by omega) (by omega)
  have hb := h.b
  unfold encT at hx
  split at hx
  · obtain rfl : x = _ := by simpa using hx
    exact hdg
  · split at hx
    · obtain rfl : x = _ := by simpa using hx
      exact hb
    · split at hx
      · rcases List.mem_append.1 hx with hx | hx
        · split at hx
          · obtain rfl : x = _ := by simpa using hx
            exact h8
          · simp at hx
        · obtain rfl : x = _ := by simpa using hx
          exact hb
      · rcases List.mem_append.1 hx with hx | hx
        · split at hx
          · obtain rfl : x = _ := by simpa using hx
            exact hpl
          · simp at hx
        · exact flatI_by h.ps x hx
theorem encO_by {o : Or} (h : Wby o) (n : Int) : ∀ x ∈ encO o n, By x := by
  intro x hx
  unfold encO at hx
  split at hx
  · exact h.dt x hx
  · rcases List.mem_append.1 hx with hx | hx
    · rcases List.mem_append.1 hx with hx | hx
      · obtain rfl : x = _ := by simpa using hx
        exact h.kd
      · split at hx
        · simp at hx
          rcases hx with rfl | rfl
          · exact encA_by _ _
          · exact encB_by _ _
        · simp at hx
    · exact encT_by h x hx
theorem wBytes_by {os : List Or} (h : ∀ o ∈ os, Wby o) (n : Int) : ∀ x ∈ wBytes os n, By x := by
  intro x hx
  unfold wBytes at hx
  obtain ⟨o, ho, hx⟩ := List.mem_flatMap.1 hx
  exact encO_by (h o ho) n x hx
theorem known_by {k : Int} (h : known k = true) : By k := by
  rcases known_cases k h with rfl | rfl | rfl | rfl | (rfl | rfl | rfl) | (rfl | rfl) | rfl | rfl <;> exact ⟨by omega, by omega⟩
/-! ### The pairs of what is parsed are bytes -/
theorem pairsM_by {L : List Int} (hL : ∀ x ∈ L, By x) {k : Int} : ∀ (m : Nat) {i l : Nat} {ps : List (Int × Int)}, pairsM L k m i = .ok ps l → ∀ p ∈ ps, By p.1 ∧ By p.2
  | 0, i, l, ps, h => by
    injection h with h _
    subst h
    simp
  | m + 1, i, l, ps, h => by
    obtain ⟨a, j, h1, h2⟩ := andThen_ok h
    obtain ⟨b, q, h3, h4⟩ := andThen_ok h2
    have e1 := pairsM_by hL m h3
    injection h4 with h4 _
    subst h4
    obtain ⟨t, j1, g1, g2⟩ := andThen_ok h1
    obtain ⟨v, j2, g3, g4⟩ := andThen_ok g2
    split at g4
    · injection g4 with g4 _
      subst g4
      intro p hp
      rcases List.mem_cons.1 hp with rfl | hp
      · exact ⟨nx_bd hL g1, nx_bd hL g3⟩
      · exact e1 p hp
    · cases g4
theorem ordK_by {L : List Int} (hL : ∀ x ∈ L, By x) {k : Int} {j l : Nat} {o : Or} (h : ordK L k j = .ok o l) : Pby o := by
  unfold ordK at h
  split at h
  · injection h with e _; subst e; simp [Pby]
  · split at h
    · obtain ⟨x, m, h1, h2⟩ := andThen_ok h
      injection h2 with e _; subst e; simp [Pby]
    · split at h
      · obtain ⟨x, m, h1, h2⟩ := andThen_ok h
        obtain ⟨y, n, h3, h4⟩ := andThen_ok h2
        injection h4 with e _; subst e; simp [Pby]
      · split at h
        · obtain ⟨x, m, h1, h2⟩ := andThen_ok h
          obtain ⟨y, n, h3, h4⟩ := andThen_ok h2
          injection h4 with e _; subst e; simp [Pby]
        · split at h
          · obtain ⟨x, m, h1, h2⟩ := andThen_ok h
            injection h2 with e _; subst e; simp [Pby]
          · split at h
            · obtain ⟨x, m, h1, h2⟩ := andThen_ok h
              have e1 := pairsM_by hL _ h1
              injection h2 with e e2; subst e; exact e1
            · split at h
              · obtain ⟨x, m, h1, h2⟩ := andThen_ok h
                obtain ⟨y, n, h3, h4⟩ := andThen_ok h2
                have e2 := pairsM_by hL _ h3
                injection h4 with e e3; subst e; exact e2
              · cases h
theorem orderM_by {L : List Int} (hL : ∀ x ∈ L, By x) {i l : Nat} {o : Or} (h : orderM L i = .ok o l) : Pby o := by
  unfold orderM at h
  split at h
  · injection h with e _; subst e; simp [Pby]
  · exact ordK_by hL h
theorem Tr.by_ {L : List Int} (hL : ∀ x ∈ L, By x) {i n : Nat} {os : List Or} {g : Option Flt} (t : Tr L i os n g) : ∀ o ∈ os, Pby o := by
  induction t with
  | stop h => simp
  | bad h e => simp
  | @step i j n o os g h e t ih =>
    intro p hp
    rcases List.mem_cons.1 hp with rfl | hp
    · exact orderM_by hL e
    · exact ih p hp
/-! ### What the walk asks -/
/-- The orders that came in. -/
theorem back_mine (n : Int) (os : List Or) (h : os.length ≤ 40) (hs : ∀ o ∈ os, o.pairs.length ≤ 300 ∧ o.data.length ≤ 300) (hb : ∀ o ∈ os, By o.byte ∧ Pby o ∧ ∀ x ∈ o.data, By x) (he : wErr os n = 0) :
    (wBytes os n).length ≤ 100000 ∧ (∀ x ∈ wBytes os n, By x) ∧ parseL (wBytes os n) ((wBytes os n).length + 1) 0 = (joinO os, (wBytes os n).length, none) := by
  have hc := wErr_all n os he
  refine ⟨wBytes_few n os h hs, wBytes_by (fun o ho => ?_) n, write_back n os fun o ho => ⟨hc o ho, chk_sf (hc o ho), (hb o ho).1.1⟩⟩
  have := chk_ok (hc o ho)
  exact ⟨known_by this.1, (hb o ho).1, (hb o ho).2.1, this.2, (hb o ho).2.2⟩
/-- The orders of bytes. -/
theorem back_parsed (n : Int) (L : List Int) (hL : ∀ x ∈ L, By x) (hm : L.length ≤ 2000) (os : List Or) (k : Nat) (g : Option Flt) (h : parseL L (L.length + 1) 0 = (os, k, g)) :
    (wErr os n = 0 ∨ wErr os n = 32) ∧ (∀ o ∈ os, o.Ok4) ∧ os.length ≤ 2000 ∧ (wBytes os n).length ≤ 100000 ∧ (wErr os n = 0 → (∀ x ∈ wBytes os n, By x) ∧ parseL (wBytes os n) ((wBytes os n).length + 1) 0 = (os, (wBytes os n).length, none)) := by
  have hp := parse_prsd L hL n os k g h
  obtain ⟨hs1, hs2, hs3, hs4⟩ := parse_small L hL (by omega) os k g h
  have t : Tr L 0 os k g := by
    have t := Tr.of L (L.length + 1) 0 (by omega)
    rw [h] at t
    exact t
  have hps := t.psum
  have hby := t.by_ hL
  have hw := wBytes_sum n os
  have hdl : ∀ o ∈ os, o.data.length ≤ dsum os := fun o ho => by
    obtain ⟨i, hi⟩ := List.getElem?_of_mem ho
    have h1 := dsum_take os i o hi
    have h2 := dsum_le os (i + 1)
    omega
  refine ⟨wErr_two n os hp, fun o ho => ?_, by omega, by omega, fun he => ?_⟩
  · have q := hp o ho
    have := hdl o ho
    exact ⟨by have := q.ps; omega, by omega, by have := q.a0; omega, by have := q.a1; omega, q.b0, q.b1⟩
  · have hc := wErr_all n os he
    refine ⟨wBytes_by (fun o ho => ?_) n, ?_⟩
    · have q := hp o ho
      have := chk_ok (hc o ho)
      exact ⟨known_by this.1, ⟨q.b0, by have := q.b1; omega⟩, hby o ho, this.2, (hs4 o ho).dt⟩
    · have := write_back n os fun o ho => ⟨hc o ho, (hp o ho).sf, (hp o ho).b0⟩
      rw [this]
      have hj : joinO os = os := by
        have := fold_nm os [] t.nm (fun p hp => by simp at hp)
        simpa [joinO] using this
      rw [hj]
end Go.Proofs.YtjeknociobbhpaaDoor.Ord
