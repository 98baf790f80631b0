/-
  Pairs, one behind the other.
-/
import Derived.Test.YtjeknociobbhpaaDoorOrdD
namespace Go.Proofs.YtjeknociobbhpaaDoor.Ord
open Go.RowKit Base
set_option linter.unusedVariables false
set_option linter.unusedSimpArgs false

def flatP (ps : List (Int × Int)) : List Value := ps.flatMap fun p => [.int .u8 p.1, .int .u8 p.2]
theorem flatP_append (A B : List (Int × Int)) : flatP (A ++ B) = flatP A ++ flatP B := by simp [flatP]
theorem flatP_length (A : List (Int × Int)) : (flatP A).length = A.length * 2 := by
  induction A with
  | nil => rfl
  | cons p A ih =>
    have : flatP (p :: A) = [.int .u8 p.1, .int .u8 p.2] ++ flatP A := by simp [flatP]
    rw [this, List.length_append, ih]; simp; omega
/-- The call's own row of pairs. -/
def PairRow (s : Nat) (w : World) (v : Value) (ps : List (Int × Int)) : Prop := w.ownsRow s 58 2 v ps.length (flatP ps)
section
variable {s : Nat} {w w' : World} {v : Value} {ps : List (Int × Int)}
theorem PairRow.keep (h : PairRow s w v ps) (u : ∀ g, s ≤ g → g < w.heap.size → w'.heap[g]? = w.heap[g]?) : PairRow s w' v ps := by
  refine ⟨h.1, ?_⟩
  rcases h.2 with h0 | ⟨g, cap, cur, rfl, hg, hgb, rest⟩
  · exact .inl h0
  · exact .inr ⟨g, cap, cur, rfl, hg, (u g hg (lt_of_block hgb)).trans hgb, rest⟩
theorem PairRow.turn {T : Nat → Prop} (h : PairRow s w v ps) (t : Turn T w w') (hT : ∀ k, T k → k < s) : PairRow s w' v ps := h.keep fun g hs hl => t.block g hl fun e => by have := hT g e; omega
theorem PairRow.slice (h : PairRow s w v ps) : ∃ a cap, v = .slice a ps.length cap := by
  rcases h.2 with ⟨rfl, hn⟩ | ⟨g, cap, cur, rfl, _⟩
  · exact ⟨none, 0, by rw [hn]⟩
  · exact ⟨_, _, rfl⟩
theorem pair_cl (w : World) (x y : Int) : ∀ (j : Nat) (u : Value), ([.int .u8 x, .int .u8 y] : List Value)[j]? = some u → (w.alloc (.cells #[.int .u8 x, .int .u8 y] 58)).cell? ((⟨w.heap.size, 0, none⟩ : Addr).add j) = some u := by
  intro j u hu
  match j, hu with
  | 0, hu => simp at hu; subst hu; simp [go_sem, Addr.add]
  | 1, hu => simp at hu; subst hu; simp [go_sem, Addr.add]
end
theorem row_first {base n k : Nat} {e : TypeId} {w : World} {v : Value} {xs : List Value} (h : w.ownsRow base e k v n xs) : ∀ r, v.ownBlock = some r → base ≤ r := fun r e => by
  rcases h.2 with ⟨rfl, _⟩ | ⟨g, cap, cur, rfl, hg', _, _⟩
  · cases e
  · obtain rfl : r = g := by simpa [Value.ownBlock, eq_comm] using e
    exact hg'
def Rd.pre {α : Type} (A : List α) (r : Rd (List α)) : Rd (List α) := match r with | .ok x j => .ok (A ++ x) j | .bad f => .bad f
theorem pairsM_step (L : List Int) (kind : Int) (n j : Nat) (ps : List (Int × Int)) : (pairsM L kind (n + 1) j).pre ps = (pairM L kind j).andThen fun p k => (pairsM L kind n k).pre (ps ++ [p]) := by
  show ((pairM L kind j).andThen fun p j => (pairsM L kind n j).andThen fun qs k => .ok (p :: qs) k).pre ps = _
  cases pairM L kind j with
  | bad f => rfl
  | ok p k =>
    simp only [Rd.andThen]
    cases pairsM L kind n k with
    | bad f => rfl
    | ok qs l => simp [Rd.pre]
theorem info_pr : (Tryd.prog.info? 58).map (fun i => (i.zero, i.size, i.bytes)) = some (some (.agg #[.int .u8 0, .int .u8 0]), 2, 2) := by kernel_rfl
structure PR (w : World) (b : Nat) (a : Option Addr) (cap : Nat) (L : List Int) (kind : Int) (R : Rd (List (Int × Int))) (n k : Nat) (v : Value) (wr : World) : Prop where
  ex : ∃ ps j, ps.length = k ∧ R = (pairsM L kind (n - k) j).pre ps ∧ PairRow w.heap.size wr v ps ∧ Rdr wr b a cap L j
  t : Turn (At b) w wr
def PairsRel (w : World) (b : Nat) (a : Option Addr) (cap : Nat) (L : List Int) (kind : Int) (R : Rd (List (Int × Int))) (n : Nat) (v i : Value) (wr : World) : Prop := ∃ k : Nat, k ≤ n ∧ i = .int .i64 k ∧ PR w b a cap L kind R n k v wr
section
variable {w w' : World} {b : Nat} {a : Option Addr} {cap : Nat} {L : List Int} {i : Nat}
set_option maxRecDepth 100000 in
set_option maxHeartbeats 2000000 in
theorem pairs_any (h : Rdr w b a cap L i) (kind : Int) (n : Nat) (hn : n ≤ 255) :
    Calls Tryd.prog 40 #[.pointer (some ⟨b, 0, none⟩), .int .u8 kind, .int .i64 n] w (RdP b a cap L w (pairsM L kind n i) fun w' ps V => PairRow w.heap.size w' V ps) := by
  obtain ⟨i0, hi, hz0, hz1, hz2⟩ := info_parts info_pr
  obtain ⟨R, hR⟩ : ∃ R, R = pairsM L kind n i := ⟨_, rfl⟩
  rw [← hR]
  have hR0 : R = (pairsM L kind (n - 0) i).pre [] := by
    rw [hR, Nat.sub_zero]
    cases pairsM L kind n i <;> rfl
  have HP0 : Hid (PR w b a cap L kind R n 0 (.slice none 0 0) w) := Lib.hid ⟨⟨[], i, rfl, hR0, ⟨rfl, .inl ⟨rfl, rfl⟩⟩, h⟩, Turn.refl _ _⟩
  have HB := Lib.hid (lt_of_block h.box)
  clear h hR hR0
  go_enter Tryd.func40, Tryd.ntmps40
  go_upto_region 3 with fail
  go_loopw [7, 9] (fun v i wr => PairsRel w b a cap L kind R n v i wr) (fun _ i _ => n - (intOf i).toNat)
  case atStart => exact ⟨0, by omega, rfl, HP0.out⟩
  case round =>
    obtain ⟨k, hk, rfl, hP⟩ := hrel
    obtain ⟨⟨ps, j, hps, hRk, hrow, hrd⟩, ht⟩ := hP
    obtain ⟨va, vc, rfl⟩ := hrow.slice
    by_cases hkn : k < n
    · have hkni : (k : Int) < (n : Int) := by omega
      rw [show n - k = n - (k + 1) + 1 by omega, pairsM_step] at hRk
      have HRK := Lib.hid hRk
      have HRD := Lib.hid hrd
      have HROW := Lib.hid hrow
      have HT := Lib.hid ht
      have HPS := Lib.hid hps
      obtain ⟨m, hm⟩ : ∃ m, m = ps.length := ⟨_, rfl⟩
      rw [← hm]
      have HM := Lib.hid hm
      have hm255 : m ≤ 255 := by omega
      clear hRk hrd hrow ht hps hm HP0
      obtain ⟨r, hr⟩ : ∃ r, r = pairM L kind j := ⟨_, rfl⟩
      have hc := pair_any HRD.out kind
      rw [← hr] at hc HRK
      cases r with
      | bad f =>
        have hRf : R = .bad f := HRK.out
        subst hRf
        have HC := Lib.hid hc
        clear hr hc HRK
        go_wp2_with fail
        refine HC.out.mono ?_
        rintro e W1 ⟨t1, he⟩
        have he : e = thrown f := he
        subst he
        have T1 := Lib.hid (HT.out.trans t1)
        clear t1
        unfold thrown
        go_wp2_with fail
        exact ⟨rfl, T1.out, rfl⟩
      | ok p j2 =>
        obtain ⟨x, y⟩ := p
        have hRp : R = (pairsM L kind (n - (k + 1)) j2).pre (ps ++ [(x, y)]) := HRK.out
        have HRP := Lib.hid hRp
        have HC := Lib.hid hc
        clear hr hc hRp HRK
        go_upto_region 4 with fail
        go_wp2_with (first
          | (go_at_call 52; refine HC.out.mono ?_; rintro e W1 ⟨t1, ⟨V, rfl, rfl⟩, h1⟩; have T1 := Lib.hid (HT.out.trans t1); have H1 := Lib.hid h1; have hraw : W1.ownsRow w.heap.size 58 2 (.slice va m vc) m (flatP ps) := by {
              have := HROW.out.turn t1 fun k hk => by { have := HB.out; rw [show k = b from hk]; exact this }
              unfold PairRow at this; rw [← HM.out] at this; exact this }; have HRAW := Lib.hid hraw; have HZ : Hid (w.heap.size ≤ W1.heap.size) := Lib.hid T1.out.size; clear t1 h1 hraw; simp only [])
          | (at_builtin; refine wpList_append_own _ rfl _ _ 33 rfl w.heap.size 58 i0 (.agg #[.int .u8 0, .int .u8 0]) 2 2 Tryd.underlying33 hi hz0 hz1 hz2 rfl (by decide) _ _ _ rfl (HRAW.out.alloc _) ⟨W1.heap.size, 0, none⟩ 1 1 [.int .u8 x, .int .u8 y] rfl rfl (pair_cl W1 x y) (by simp [Value.oneCell']) (by unfold maxLen; omega) (by omega) (by rw [World.size_alloc]; have := HZ.out; omega) ?_; intro v' W5 hown' hgrow _))
        have hfirst : ∀ g, (Value.slice va m vc).ownBlock = some g → w.heap.size ≤ g := row_first HRAW.out
        have hal := below_alloc W1 (.cells #[.int .u8 x, .int .u8 y] 58)
        have t5 : Turn (At b) w W5 := (T1.out.trans (Turn.of_below hal)).grown hgrow fun g e => .inl (hfirst g e)
        have u5 : Turn (fun g => b < g) W1 W5 := (Turn.of_below hal).grown hgrow fun g e => .inr (by have := hfirst g e; have := HB.out; omega)
        have h5 := H1.out.high u5
        have hrow5 : PairRow w.heap.size W5 v' (ps ++ [(x, y)]) := by
          unfold PairRow
          rw [flatP_append, List.length_append, ← HM.out]
          exact hown'
        go_roundw
        case rel => exact ⟨k + 1, by omega, by go_num, ⟨⟨_, j2, by rw [List.length_append, HPS.out]; rfl, HRP.out, hrow5, h5⟩, t5⟩⟩
        case measure => simp [intOf]; omega
    · obtain rfl : n = k := by omega
      rw [Nat.sub_self] at hRk
      have hRe : R = .ok ps j := by rw [hRk]; simp [pairsM, Rd.pre]
      subst hRe
      clear hRk HP0 hkn
      go_wp2_with fail
      go_ret
      exact ⟨ht, ⟨_, rfl, hrow⟩, hrd⟩
end
end Go.Proofs.YtjeknociobbhpaaDoor.Ord
