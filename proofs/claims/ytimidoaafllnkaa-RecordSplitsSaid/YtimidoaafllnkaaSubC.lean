/-
  The reference's All beside the decoder, plainly.
-/
import Derived.Test.YtimidoaafllnkaaSubB
namespace Go.Proofs.Ytimidoaafllnkaa.Iac
open Go.RowKit Base Rec
set_option linter.unusedVariables false
set_option linter.unusedSimpArgs false

def Sk (L : List Ev) : (List (List Int × Bool) × List Int) × Bool := (run10 L, endsB L)
theorem sk_snoc (J : List Ev) (e : Ev) : Sk (J ++ [e]) = (st10 (run10 J) e, decide (e.kind = 2)) := by
  unfold Sk endsB
  rw [run10_snoc, List.getLast?_concat]
theorem sk_run {R J : List Ev} (h : Sk R = Sk J) : run10 R = run10 J := congrArg Prod.fst h
theorem sk_other {R J : List Ev} (h : run10 R = run10 J) (e f : Ev) (h1 : e.kind ≠ 1) (h2 : e.kind ≠ 2) (h3 : f.kind ≠ 1) (h4 : f.kind ≠ 2) : Sk (R ++ [e]) = Sk (J ++ [f]) := by
  rw [sk_snoc, sk_snoc, h]
  simp [st10, h1, h2, h3, h4]
theorem sk_end {R J : List Ev} (h : Sk R = Sk J) : Sk (R ++ [⟨2, 0, 0, []⟩]) = Sk (J ++ [⟨2, 0, 0, []⟩]) := by
  rw [sk_snoc, sk_snoc, sk_run h]
theorem sk_add (R : List Ev) (x : Int) : Sk (addL R ⟨1, 0, 0, [x]⟩) = (((run10 R).1, (run10 R).2 ++ [x]), false) := by
  rcases List.eq_nil_or_concat R with rfl | ⟨Q, f, rfl⟩
  · rfl
  · rw [List.concat_eq_append]
    by_cases h : f.kind = 1
    · rw [addL_data _ _ _ h rfl, sk_snoc, run10_snoc]
      simp [st10, h]
    · rw [addL_other _ _ _ fun h' => h h'.1, sk_snoc]
      simp [st10]
theorem sk_data {R J : List Ev} (h : Sk R = Sk J) (x : Int) : Sk (addL R ⟨1, 0, 0, [x]⟩) = Sk (layL J x) := by
  rw [layL_eq, sk_add, sk_add, sk_run h]
def Fd (b : List Int) (p : Nat) : Dec × List Ev := foldF (dec0, []) (b.take p)
theorem fd_snoc (b : List Int) (p : Nat) (x : Int) (h : b[p]? = some x) : Fd b (p + 1) = takeD (Fd b p).1 (Fd b p).2 x := by
  unfold Fd
  rw [List.take_add_one, h, Option.toList, foldF_snoc]
theorem fd_all (b : List Int) (p : Nat) (h : b.length ≤ p) : Fd b p = feedD dec0 b := by
  unfold Fd
  rw [List.take_of_length_le h]
  rfl
theorem fd_add (b : List Int) (p q : Nat) (h : p ≤ q) : Fd b q = foldF (Fd b p) ((b.drop p).take (q - p)) := by
  have e : b.take q = b.take p ++ (b.drop p).take (q - p) := by
    have := List.take_add (i := p) (j := q - p) (l := b)
    rwa [show p + (q - p) = q by omega] at this
  unfold Fd
  rw [e, foldF_append]
theorem fd_rest (b : List Int) (p : Nat) : feedD dec0 b = foldF (Fd b p) (b.drop p) := by
  rw [feedD_fold]
  unfold Fd
  rw [← foldF_append, List.take_append_drop]
def AllRel (b : List Int) (p : Nat) (bh : Bool) (R : List Ev) : Prop :=
  (bh = false ∧ (Fd b p).1.state = 0 ∧ Sk R = Sk (Fd b p).2) ∨
  (bh = true ∧ ∃ c, b[p]? = some c ∧ c ≠ 255 ∧ (Fd b p).1.state = 4 ∧ (c = 240 → (Fd b p).1.named = false) ∧ Sk R = Sk ((Fd b p).2 ++ [badE (Fd b p).1]))
def Mid (b : List Int) (q : Nat) (c : Int) (R : List Ev) : Prop :=
  ∃ D J, Sk R = Sk J ∧ (Fd b q = commandD D J c ∨ (c = 240 ∧ (Fd b q).1.state = 0 ∧ Sk (Fd b q).2 = (run10 J, false)))
section
variable {b : List Int} {p q : Nat} {c x : Int} {R : List Ev}
theorem AllRel.start : AllRel b 0 false [] := .inl ⟨rfl, rfl, rfl⟩
theorem AllRel.byte (h : AllRel b p false R) (hx : b[p]? = some x) (hn : x ≠ 255) : AllRel b (p + 1) false (addL R ⟨1, 0, 0, [x]⟩) := by
  rcases h with ⟨-, h1, h2⟩ | ⟨h, _⟩
  · refine .inl ⟨rfl, ?_⟩
    rw [fd_snoc b p x hx, take0 _ _ x h1 hn]
    exact ⟨h1, sk_data h2 x⟩
  · cases h
theorem AllRel.mark (h : AllRel b p false R) (hx : b[p]? = some 255) : (b.length ≤ p + 1 → (feedD dec0 b).1.state ≠ 0) ∧ ∀ c, b[p + 1]? = some c → Mid b (p + 2) c R := by
  rcases h with ⟨-, h1, h2⟩ | ⟨h, _⟩
  · have e := fd_snoc b p 255 hx
    rw [take0m _ _ h1] at e
    refine ⟨fun hl => ?_, fun c hc => ⟨{ (Fd b p).1 with state := 1 }, (Fd b p).2, h2, .inl ?_⟩⟩
    · rw [← fd_all b (p + 1) hl, e]
      simp
    · rw [fd_snoc b (p + 1) c hc, e]
      exact take1 _ _ c rfl
  · cases h
theorem AllRel.behind (h : AllRel b p true R) : ∃ c, b[p]? = some c ∧ c ≠ 255 ∧ Mid b (p + 1) c R := by
  rcases h with ⟨h, _⟩ | ⟨-, c, hc, hn, hs, h240, hsk⟩
  · cases h
  · refine ⟨c, hc, hn, (Fd b p).1, _, hsk, ?_⟩
    rw [fd_snoc b p c hc, take4 _ _ c hs]
    unfold markedD
    rw [if_neg hn]
    by_cases h2 : c = 240
    · right
      rw [if_pos h2]
      refine ⟨h2, rfl, ?_⟩
      show Sk ((Fd b p).2 ++ [eventE (Fd b p).1]) = _
      unfold eventE
      rw [if_pos (h240 h2), sk_snoc, run10_snoc]
      simp [st10, badE]
    · left
      rw [if_neg h2]
theorem Mid.cmd (h : Mid b q c R) (hc : c ≠ 240) : ∃ D J, Sk R = Sk J ∧ Fd b q = commandD D J c := by
  obtain ⟨D, J, h1, h2 | ⟨h2, _⟩⟩ := h
  · exact ⟨D, J, h1, h2⟩
  · exact absurd h2 hc
theorem Mid.twice (h : Mid b q 255 R) : AllRel b q false (addL R ⟨1, 0, 0, [255]⟩) := by
  obtain ⟨D, J, h1, h2⟩ := h.cmd (by omega)
  refine .inl ⟨rfl, ?_⟩
  rw [h2]
  unfold commandD
  rw [if_pos rfl]
  exact ⟨rfl, sk_data h1 255⟩
theorem Mid.ends (h : Mid b q 239 R) : AllRel b q false (R ++ [⟨2, 0, 0, []⟩]) := by
  obtain ⟨D, J, h1, h2⟩ := h.cmd (by omega)
  refine .inl ⟨rfl, ?_⟩
  rw [h2]
  unfold commandD
  rw [if_neg (by omega), if_pos rfl]
  exact ⟨rfl, sk_end h1⟩
theorem Mid.verb (h : Mid b q c R) (h1 : 251 ≤ c) (h2 : c ≤ 254) : (b.length ≤ q → (feedD dec0 b).1.state ≠ 0) ∧ ∀ x, b[q]? = some x → AllRel b (q + 1) false (R ++ [⟨4, c, x, []⟩]) := by
  obtain ⟨D, J, hs, e⟩ := h.cmd (by omega)
  unfold commandD at e
  rw [if_neg (by omega), if_neg (by omega), if_neg (by omega), if_pos ⟨h1, h2⟩] at e
  refine ⟨fun hl => ?_, fun x hx => .inl ⟨rfl, ?_⟩⟩
  · rw [← fd_all b q hl, e]
    simp
  · rw [fd_snoc b q x hx, e]
    exact ⟨rfl, sk_other (sk_run hs) _ _ (by simp) (by simp) (by simp) (by simp)⟩
theorem Mid.sub {kd o : Int} {nx : Nat} {L : List Int} (h : Mid b q 250 R) (hb : SubOut b q kd nx) :
    (nx = 0 ∧ (feedD dec0 b).1.state ≠ 0) ∨ (q < nx ∧ nx ≤ b.length ∧ AllRel b nx (kd == 7) (R ++ [⟨kd, 0, o, L⟩])) := by
  obtain ⟨D, J, hs, e⟩ := h.cmd (by omega)
  unfold commandD at e
  rw [if_neg (by omega), if_neg (by omega), if_pos rfl] at e
  rcases hb with ⟨h0, st, nm, hst, hS⟩ | ⟨h1, h2, hk, hS⟩ | ⟨h1, h2, hk, nm, c, hS, hc, hn, h240⟩
  · obtain ⟨D', e', hs', _⟩ := hS ⟨3, D.verb, false, 0, [], false⟩ J rfl rfl
    refine .inl ⟨h0, ?_⟩
    rw [fd_rest b q, e, e', hs']
    omega
  · obtain ⟨D', f, e', hs', hf1, hf2⟩ := hS ⟨3, D.verb, false, 0, [], false⟩ J rfl rfl
    refine .inr ⟨h1, h2, ?_⟩
    rw [show (kd == 7) = false by rcases hk with rfl | rfl <;> rfl]
    refine .inl ⟨rfl, ?_⟩
    rw [fd_add b q nx (by omega), e, e']
    exact ⟨hs', sk_other (sk_run hs) _ _ (by show kd ≠ 1; omega) (by show kd ≠ 2; omega) hf1 hf2⟩
  · obtain ⟨D', e', hs', hnm⟩ := hS ⟨3, D.verb, false, 0, [], false⟩ J rfl rfl
    refine .inr ⟨h1, by omega, ?_⟩
    subst hk
    refine .inr ⟨rfl, c, hc, hn, ?_⟩
    rw [fd_add b q nx (by omega), e, e']
    exact ⟨hs', fun h => hnm.trans (h240 h), sk_other (sk_run hs) _ _ (by simp) (by simp) (by simp [badE]) (by simp [badE])⟩
theorem Mid.other (h : Mid b q c R) (h1 : c ≠ 255) (h2 : c ≠ 239) (h3 : c ≠ 250) (h4 : c < 251) : AllRel b q false (R ++ [⟨3, c, 0, []⟩]) := by
  obtain ⟨D, J, hs, e | ⟨hc, e, e2⟩⟩ := h
  · unfold commandD at e
    rw [if_neg h1, if_neg h2, if_neg h3, if_neg (by omega)] at e
    refine .inl ⟨rfl, ?_⟩
    rw [e]
    exact ⟨rfl, sk_other (sk_run hs) _ _ (by simp) (by simp) (by simp) (by simp)⟩
  · refine .inl ⟨rfl, e, ?_⟩
    rw [e2, sk_snoc, sk_run hs]
    simp [st10]
theorem AllRel.done {bh : Bool} (h : AllRel b p bh R) (hl : b.length ≤ p) : (feedD dec0 b).1.state = 0 ∧ Sk R = Sk (feedD dec0 b).2 := by
  rcases h with ⟨-, h1, h2⟩ | ⟨_, c, hc, _⟩
  · rw [fd_all b p hl] at h1 h2
    exact ⟨h1, h2⟩
  · exact absurd (List.getElem?_eq_some_iff.1 hc).1 (by omega)
end
/-- How much events are. -/
def Few (n : Nat) (R : List Ev) : Prop := R.length ≤ n ∧ totE R ≤ 256 * n ∧ ∀ e ∈ R, e.bytes.length ≤ n + 256
theorem Few.start : Few 0 [] := ⟨by simp, by simp [totE], by simp⟩
theorem Few.more {n m : Nat} {R : List Ev} {e : Ev} (h : Few n R) (hm : n < m) (he : e.bytes.length ≤ 256) : Few m (R ++ [e]) := by
  obtain ⟨h1, h2, h3⟩ := h
  refine ⟨by simp; omega, by rw [totE_snoc]; omega, fun f hf => ?_⟩
  rcases List.mem_append.1 hf with hf | hf
  · have := h3 f hf; omega
  · rw [List.mem_singleton.1 hf]; omega
theorem Few.add {n m : Nat} {R : List Ev} (h : Few n R) (hm : n < m) (x : Int) : Few m (addL R ⟨1, 0, 0, [x]⟩) := by
  obtain ⟨h1, h2, h3⟩ := h
  have t := addL_tot R ⟨1, 0, 0, [x]⟩
  simp only [List.length_cons, List.length_nil] at t
  refine ⟨by omega, by omega, fun f hf => ?_⟩
  rcases List.eq_nil_or_concat R with rfl | ⟨Q, g, rfl⟩
  · simp [addL] at hf
    rw [hf]; simp
  · rw [List.concat_eq_append] at h3 hf
    by_cases h : g.kind = 1
    · rw [addL_data _ _ _ h rfl] at hf
      rcases List.mem_append.1 hf with hf | hf
      · have := h3 f (by simp [hf]); omega
      · rw [List.mem_singleton.1 hf]
        have := h3 g (by simp)
        simp; omega
    · rw [addL_other _ _ _ fun h' => h h'.1] at hf
      rcases List.mem_append.1 hf with hf | hf
      · have := h3 f hf; omega
      · rw [List.mem_singleton.1 hf]; simp
/-- What the reference's All answers. -/
def RAllP (b : List Int) (w : World) (e : Ending) (w' : World) : Prop :=
  ∃ v P left, e = .returned (.tuple #[v, .bool left]) ∧ ROwn w.heap.size w' v P ∧ Few b.length (P.map (·.1)) ∧ Below w.heap.size w w' ∧ (left = true → (feedD dec0 b).1.state ≠ 0) ∧ (left = false → (feedD dec0 b).1.state = 0 ∧ Sk (P.map (·.1)) = Sk (feedD dec0 b).2)
end Go.Proofs.Ytimidoaafllnkaa.Iac
