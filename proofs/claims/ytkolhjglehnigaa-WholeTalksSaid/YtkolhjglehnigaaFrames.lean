/-
  Records with headers, and verbs between them, come as they were sent: plainly.
  Opened arguments: rows of parts that are sent.
  The whole's own example: a record comes as it was sent.
-/
import Derived.Test.YtkolhjglehnigaaRecF
import Derived.Test.YtkolhjglehnigaaHeadA
import Derived.Test.YtkolhjglehnigaaOpenF
import Derived.Test.YtkolhjglehnigaaOpenH
import Derived.Test.YtkolhjglehnigaaHeaderBackWalk
import Derived.Test.YtkolhjglehnigaaRecE
import Derived.Test.YtkolhjglehnigaaHeadE
import Derived.Test.YtkolhjglehnigaaTalkF
import Derived.Test.YtkolhjglehnigaaIacB
import Derived.Test.YtkolhjglehnigaaIacAliveA
namespace Go.Proofs.Ytkolhjglehnigaa.Rec
open Go.RowKit Base Iac Head
set_option linter.unusedVariables false

/-- Something that is sent. -/
structure Pt where
  h : Hd
  b : List Int
  vb : Int
  op : Int
def Pt.hd (p : Pt) : Hd := ⟨p.h.ty % 9, p.h.rq, p.h.rs, p.h.seq⟩
def Pt.code (p : Pt) : Int := 251 + p.vb % 4
def Pt.body (p : Pt) : List Int := hdL p.hd ++ p.b
def Pt.out (p : Pt) : List Int := if p.vb = 0 then escL p.body ++ [255, 239] else [255, p.code, p.op]
def Pt.evs (p : Pt) : List Ev := if p.vb = 0 then dataL p.body ++ [⟨2, 0, 0, []⟩] else [⟨4, p.code, p.op, []⟩]
def outL (ps : List Pt) : List Int := ps.flatMap Pt.out
def evsL (ps : List Pt) : List Ev := ps.flatMap Pt.evs
theorem Pt.body_length (p : Pt) : p.body.length = 5 + p.b.length := by simp [Pt.body, hdL]; omega
theorem Pt.body_ne (p : Pt) : p.body ≠ [] := by simp [Pt.body, hdL]
theorem outL_snoc (ps : List Pt) (p : Pt) : outL (ps ++ [p]) = outL ps ++ p.out := by simp [outL]
theorem Pt.out_le (p : Pt) (h : p.b.length ≤ 300) : p.out.length ≤ 612 := by
  unfold Pt.out
  split
  · have h1 := escL_le p.body
    have h2 := p.body_length
    simp only [List.length_append, List.length_cons, List.length_nil]
    omega
  · simp
theorem outL_le (ps : List Pt) (h : ∀ p ∈ ps, p.b.length ≤ 300) : (outL ps).length ≤ 612 * ps.length := by
  induction ps with
  | nil => simp [outL]
  | cons p ps ih =>
    have h1 := p.out_le (h p (by simp))
    have h2 := ih fun q hq => h q (by simp [hq])
    have h3 : outL (p :: ps) = p.out ++ outL ps := by simp [outL]
    rw [h3, List.length_append, List.length_cons]
    omega
theorem fold_verb (D : Dec) (J : List Ev) (c o : Int) (h : D.state = 0) (hc : 251 ≤ c ∧ c ≤ 254) : foldF (D, J) [255, c, o] = ({ D with verb := c }, J ++ [⟨4, c, o, []⟩]) := by
  have e : foldF (D, J) [255, c, o] = takeD (foldF (D, J) [255, c]).1 (foldF (D, J) [255, c]).2 o := rfl
  have e2 : foldF (D, J) [255, c] = ({ D with state := 2, verb := c }, J) := by
    rw [foldF_two, take0m D J h]
    show takeD { D with state := 1 } J c = _
    rw [take1 _ _ _ rfl]
    unfold commandD
    rw [if_neg (by omega), if_neg (by omega), if_neg (by omega), if_pos hc]
  rw [e, e2]
  unfold takeD
  rw [if_neg (by simp), if_pos rfl]
  cases D
  simp at h
  simp [h]
theorem fold_parts : ∀ (ps : List Pt) (D : Dec) (Q : List Ev), D.state = 0 → (Q = [] ∨ ∃ P e, Q = P ++ [e] ∧ e.kind ≠ 1) → ∃ D', D'.state = 0 ∧ foldF (D, Q) (outL ps) = (D', Q ++ evsL ps) := by
  intro ps
  induction ps with
  | nil => intro D Q h _; exact ⟨D, h, by simp [outL, evsL, foldF]⟩
  | cons p ps ih =>
    intro D Q h hQ
    have h1 : outL (p :: ps) = p.out ++ outL ps := by simp [outL]
    have h2 : evsL (p :: ps) = p.evs ++ evsL ps := by simp [evsL]
    rw [h1, h2, foldF_append]
    by_cases hv : p.vb = 0
    · have e1 : p.out = escL p.body ++ [255, 239] := by unfold Pt.out; rw [if_pos hv]
      have e2 : p.evs = dataL p.body ++ [⟨2, 0, 0, []⟩] := by unfold Pt.evs; rw [if_pos hv]
      have h3 : p.body.foldl layL Q = Q ++ dataL p.body := by
        rcases hQ with rfl | ⟨P, e, rfl, he⟩
        · rw [lay_nil]; rfl
        · exact lay_behind p.body P e he
      rw [e1, e2, foldF_append, fold_data D h, fold_end D _ h, h3]
      obtain ⟨D', hD, hr⟩ := ih D (Q ++ dataL p.body ++ [⟨2, 0, 0, []⟩]) h (.inr ⟨_, _, rfl, by simp⟩)
      exact ⟨D', hD, by rw [hr]; simp⟩
    · have e1 : p.out = [255, p.code, p.op] := by unfold Pt.out; rw [if_neg hv]
      have e2 : p.evs = [⟨4, p.code, p.op, []⟩] := by unfold Pt.evs; rw [if_neg hv]
      rw [e1, e2, fold_verb D Q p.code p.op h (by unfold Pt.code; omega)]
      obtain ⟨D', hD, hr⟩ := ih { D with verb := p.code } (Q ++ [⟨4, p.code, p.op, []⟩]) h (.inr ⟨_, _, rfl, by simp⟩)
      exact ⟨D', hD, by rw [hr]; simp⟩

/-! ### What is told, beside what was sent -/
def stepC (S : Option (List Int × List Pt)) (e : Ev) : Option (List Int × List Pt) :=
  match S with
  | none => none
  | some (B, qs) =>
    if e.kind = 1 then some (B ++ e.bytes, qs)
    else match qs with
      | [] => none
      | p :: qs' =>
        if p.vb = 0 then (if e.kind = 2 ∧ B = p.body then some ([], qs') else none)
        else (if B = [] ∧ e.kind = 4 ∧ e.code = p.code ∧ e.option = p.op then some ([], qs') else none)
def runC (S : Option (List Int × List Pt)) (J : List Ev) : Option (List Int × List Pt) := J.foldl stepC S
theorem runC_snoc (S : Option (List Int × List Pt)) (J : List Ev) (e : Ev) : runC S (J ++ [e]) = stepC (runC S J) e := by simp [runC]
theorem runC_append (S : Option (List Int × List Pt)) (J K : List Ev) : runC S (J ++ K) = runC (runC S J) K := by simp [runC]
theorem runC_none (J : List Ev) : runC none J = none := by
  induction J with
  | nil => rfl
  | cons e J ih => exact ih
theorem stepC_data (S : Option (List Int × List Pt)) (c o c' o' : Int) (X Y : List Int) : stepC (stepC S ⟨1, c, o, X⟩) ⟨1, c', o', Y⟩ = stepC S ⟨1, c, o, X ++ Y⟩ := by
  cases S with
  | none => rfl
  | some p => obtain ⟨B, qs⟩ := p; simp [stepC]
theorem stepC_empty (S : Option (List Int × List Pt)) (c o : Int) : stepC S ⟨1, c, o, []⟩ = S := by
  cases S with
  | none => rfl
  | some p => obtain ⟨B, qs⟩ := p; simp [stepC]
theorem runC_joinE (S : Option (List Int × List Pt)) (M : List Ev) (e : Ev) : runC S (joinE M e) = stepC (runC S M) e := by
  unfold joinE
  split
  · next h =>
    obtain ⟨k, c, o, b⟩ := e
    simp only at h
    obtain ⟨rfl, rfl⟩ := h
    exact (stepC_empty _ _ _).symm
  · rcases List.eq_nil_or_concat M with rfl | ⟨Q, f, rfl⟩
    · rfl
    · rw [List.concat_eq_append]
      by_cases hf : f.kind = 1 ∧ e.kind = 1
      · rw [addL_data _ _ _ hf.1 hf.2, runC_snoc, runC_snoc]
        obtain ⟨k, c, o, b⟩ := e
        obtain ⟨k', c', o', b'⟩ := f
        simp only at hf
        obtain ⟨rfl, rfl⟩ := hf
        exact (stepC_data _ _ _ _ _ _ _).symm
      · rw [addL_other _ _ _ hf, runC_snoc]
theorem runC_join (S : Option (List Int × List Pt)) (L : List Ev) : runC S (joinL L) = runC S L := by
  rw [← List.take_length (l := L)]
  generalize L.length = k
  induction k with
  | zero => rfl
  | succ k ih =>
    by_cases hk : k < L.length
    · rw [List.take_succ_eq_append_getElem hk, joinL_snoc, runC_joinE, ih, runC_snoc]
    · rw [List.take_of_length_le (by omega)] at ih ⊢
      exact ih
theorem runC_evs (ps : List Pt) : runC (some ([], ps)) (evsL ps) = some ([], []) := by
  induction ps with
  | nil => rfl
  | cons p ps ih =>
    have h2 : evsL (p :: ps) = p.evs ++ evsL ps := by simp [evsL]
    rw [h2, runC_append]
    have : runC (some ([], p :: ps)) p.evs = some ([], ps) := by
      unfold Pt.evs
      split
      · next hv =>
        unfold dataL
        rw [if_neg p.body_ne]
        simp [runC, stepC, hv]
      · next hv => simp [runC, stepC, hv]
    rw [this, ih]
theorem runC_parts {D : Dec} {J : List Ev} (ps : List Pt) (h : PartsOk D J (outL ps)) : runC (some ([], ps)) J = some ([], []) ∧ D.state = 0 := by
  obtain ⟨D', hD, hr⟩ := fold_parts ps dec0 [] rfl (.inl rfl)
  have hf : feedD dec0 (outL ps) = (D', evsL ps) := by rw [feedD_fold, hr]; rfl
  refine ⟨?_, ?_⟩
  · rw [← runC_join _ J, h.2, hf, runC_join, runC_evs]
  · have := h.1
    rw [hf] at this
    rw [this]
    exact hD
/-- What a step tells. -/
theorem stepC_some {B B' : List Int} {qs qs' : List Pt} {e : Ev} (h : stepC (some (B, qs)) e = some (B', qs')) :
    (e.kind = 1 ∧ B' = B ++ e.bytes ∧ qs' = qs) ∨ (e.kind ≠ 1 ∧ B' = [] ∧ ∃ p, qs = p :: qs' ∧ ((p.vb = 0 ∧ e.kind = 2 ∧ B = p.body) ∨ (p.vb ≠ 0 ∧ B = [] ∧ e.kind = 4 ∧ e.code = p.code ∧ e.option = p.op))) := by
  unfold stepC at h
  simp only at h
  split at h
  · next h1 =>
    injection h with h
    injection h with h2 h3
    exact .inl ⟨h1, h2.symm, h3.symm⟩
  · next h1 =>
    refine .inr ⟨h1, ?_⟩
    cases qs with
    | nil => simp at h
    | cons p qs =>
      simp only at h
      split at h
      · next hv =>
        split at h
        · next hc =>
          injection h with h
          injection h with h2 h3
          exact ⟨h2.symm, p, by rw [h3], .inl ⟨hv, hc.1, hc.2⟩⟩
        · simp at h
      · next hv =>
        split at h
        · next hc =>
          injection h with h
          injection h with h2 h3
          exact ⟨h2.symm, p, by rw [h3], .inr ⟨hv, hc⟩⟩
        · simp at h
theorem runC_bound : ∀ (E : List Ev) (B : List Int) (qs : List Pt) (m : Nat), runC (some (B, qs)) E = some ([], []) → (∀ q ∈ qs, q.body.length ≤ m) → B.length ≤ m := by
  intro E
  induction E with
  | nil =>
    intro B qs m h _
    have h : some (B, qs) = some ([], []) := h
    injection h with h
    injection h with h1 h2
    rw [h1]; simp
  | cons e E ih =>
    intro B qs m h0 hq
    have h : runC (stepC (some (B, qs)) e) E = some ([], []) := h0
    clear h0
    cases hs : stepC (some (B, qs)) e with
    | none => rw [hs, runC_none] at h; cases h
    | some p =>
      obtain ⟨B', qs'⟩ := p
      rw [hs] at h
      rcases stepC_some hs with ⟨_, rfl, rfl⟩ | ⟨_, rfl, p, rfl, ⟨_, _, rfl⟩ | ⟨_, rfl, _⟩⟩
      · have := ih _ _ m h hq
        rw [List.length_append] at this
        omega
      · exact hq p (by simp)
      · simp
/-- A step further. -/
theorem runC_next {ps : List Pt} {J : List Ev} {k : Nat} {B : List Int} {qs : List Pt} (h : runC (some ([], ps)) J = some ([], [])) (hk : runC (some ([], ps)) (J.take k) = some (B, qs)) (e : Ev) (he : J[k]? = some e) :
    ∃ B' qs', stepC (some (B, qs)) e = some (B', qs') ∧ runC (some ([], ps)) (J.take (k + 1)) = some (B', qs') := by
  have h1 : J.take (k + 1) = J.take k ++ [e] := by rw [List.take_add_one, he]; rfl
  have h2 : runC (some ([], ps)) (J.take (k + 1)) = stepC (some (B, qs)) e := by rw [h1, runC_snoc, hk]
  have h3 : runC (runC (some ([], ps)) (J.take (k + 1))) (J.drop (k + 1)) = some ([], []) := by rw [← runC_append, List.take_append_drop]; exact h
  cases hs : stepC (some (B, qs)) e with
  | none => rw [h2, hs, runC_none] at h3; cases h3
  | some p => obtain ⟨B', qs'⟩ := p; exact ⟨B', qs', rfl, by rw [h2, hs]⟩
theorem runC_rest {ps : List Pt} {J : List Ev} {k : Nat} {B : List Int} {qs : List Pt} (h : runC (some ([], ps)) J = some ([], [])) (hk : runC (some ([], ps)) (J.take k) = some (B, qs)) : runC (some (B, qs)) (J.drop k) = some ([], []) := by
  rw [← hk, ← runC_append, List.take_append_drop]; exact h
end Go.Proofs.Ytkolhjglehnigaa.Rec
namespace Go.Proofs.Ytkolhjglehnigaa.Rec
open Go.RowKit Base Head
/-- Parts in memory. -/
def PtsAt (w : World) (v : Value) (ps : List Pt) : Prop :=
  ∃ a cap, v = .slice a ps.length cap ∧ (ps ≠ [] → ∃ g off, a = some ⟨g, off, none⟩ ∧ g < w.heap.size ∧ ∀ (i : Nat) (p : Pt), ps[i]? = some p → ∃ u,
    w.cell? ⟨g, off + i * 7, none⟩ = some (.int .u8 p.h.ty) ∧ w.cell? ⟨g, off + i * 7 + 1, none⟩ = some (.int .u8 p.h.rq) ∧ w.cell? ⟨g, off + i * 7 + 2, none⟩ = some (.int .u8 p.h.rs) ∧ w.cell? ⟨g, off + i * 7 + 3, none⟩ = some (.int .u16 p.h.seq) ∧ w.cell? ⟨g, off + i * 7 + 4, none⟩ = some u ∧ w.cell? ⟨g, off + i * 7 + 5, none⟩ = some (.int .u8 p.vb) ∧ w.cell? ⟨g, off + i * 7 + 6, none⟩ = some (.int .u8 p.op) ∧ CutRow w u p.b)
structure Pt.Ok (p : Pt) : Prop where
  h : p.h.Ok
  b : p.b.length ≤ maxLen
  by' : ∀ n ∈ p.b, Open.Byte n
  vb : Open.Byte p.vb
  op : Open.Byte p.op
instance : Inhabited Hd := ⟨⟨0, 0, 0, 0⟩⟩
instance : Inhabited (Pt × Value) := ⟨(⟨⟨0, 0, 0, 0⟩, [], 0, 0⟩, .slice none 0 0)⟩
end Go.Proofs.Ytkolhjglehnigaa.Rec
namespace Go.Proofs.Ytkolhjglehnigaa.Open
open Go.ChangeShapes Go.WideShapes Go.ChangeAt Go.RowKit Go.Joins Go.Deep Base Rec Head
set_option linter.unusedVariables false

section
variable {H : Type} {enc : TypeId × Value → H} {W : World} {base fuel : Nat} {held : Bool} {x : DataW H × List MemPlace} {a : Option Addr} {len cap : Nat}
theorem cut_one {u : Value} {t : TypeId} (ht : Try.prog.underlying t = some (.slice 5)) (h : DataW.trod enc Try.prog W base (fun _ => true) held fuel t [u] = some x) :
    ∃ L : List Int, CutRow W u L ∧ L.length ≤ maxLen ∧ ∀ n ∈ L, Byte n := by
  have hu : ∃ a l c, u = .slice a l c := by
    rcases open_ints ht Try.underlying5 (by kernel_rfl) h with ⟨hcs, _⟩ | ⟨p, l, c, zs, hcs, _⟩
    · simp at hcs; exact ⟨_, _, _, hcs⟩
    · simp at hcs; exact ⟨_, _, _, hcs⟩
  obtain ⟨a, l, c, rfl⟩ := hu
  exact cut_open ht h
set_option maxRecDepth 100000 in
theorem parts_open (h : DataW.trod enc Try.prog W base (fun _ => true) held fuel 113 (Value.cells (.slice a len cap)).toList = some x) :
    ∃ L : List Pt, PtsAt W (.slice a len cap) L ∧ L.length ≤ maxLen ∧ ∀ p ∈ L, p.Ok := by
  rcases open_slice Try.underlying113 h with ⟨hcs, _⟩ | ⟨p, l, c, m, n, D, Pl, hcs, _, hl, hm, hmm, _, hx⟩
  · simp [Value.cells] at hcs
    obtain ⟨rfl, rfl, rfl⟩ := hcs
    exact ⟨[], ⟨none, 0, rfl, fun h => absurd rfl h⟩, by simp [maxLen], fun _ h => absurd h (by simp)⟩
  · simp [Value.cells] at hcs
    obtain ⟨rfl, rfl, rfl⟩ := hcs
    simp at hmm
    subst hmm
    have hC : Try.prog.cellsOf 118 = 7 := by kernel_rfl
    have cH : Try.prog.cellsOf 116 = 4 := by kernel_rfl
    have c3 : Try.prog.cellsOf 5 = 1 := by kernel_rfl
    have c4 : Try.prog.cellsOf 114 = 1 := by kernel_rfl
    have c5 : Try.prog.cellsOf 24 = 1 := by kernel_rfl
    have one : ∀ i, i < m → ∃ q : Pt × Value, q.1.Ok ∧ W.cell? (p.add (i * 7)) = some (.int .u8 q.1.h.ty) ∧ W.cell? ((p.add (i * 7)).add 1) = some (.int .u8 q.1.h.rq) ∧ W.cell? ((p.add (i * 7)).add 2) = some (.int .u8 q.1.h.rs) ∧ W.cell? ((p.add (i * 7)).add 3) = some (.int .u16 q.1.h.seq) ∧ W.cell? ((p.add (i * 7)).add 4) = some q.2 ∧ W.cell? ((p.add (i * 7)).add 5) = some (.int .u8 q.1.vb) ∧ W.cell? ((p.add (i * 7)).add 6) = some (.int .u8 q.1.op) ∧ CutRow W q.2 q.1.b := by
      intro i hi
      obtain ⟨cs', hc, htr⟩ := hx i hi
      rw [hC] at hc
      obtain ⟨xs, n', _, _, hl3, hxl, hf⟩ := DataW.trod_struct Try.underlying118 htr
      obtain ⟨_, _, hat⟩ := World.cells?_some hc
      rw [hC] at hl3
      match cs', hl3 with
      | [u0, u1, u2, u3, u4, u5, u6], _ =>
        match xs, hxl with
        | [y0, y1, y2, y3], _ =>
          have f0 := hf 0 _ rfl
          have f1 := hf 1 _ rfl
          have f2 := hf 2 _ rfl
          have f3 := hf 3 _ rfl
          simp [c3, c5, cH] at f0 f1 f2 f3
          obtain ⟨zs, n2, _, _, hk3, hzl, hg⟩ := DataW.trod_struct Try.underlying116 f0
          match zs, hzl with
          | [z0, z1, z2, z3], _ =>
            have g0 := hg 0 _ rfl
            have g1 := hg 1 _ rfl
            have g2 := hg 2 _ rfl
            have g3 := hg 3 _ rfl
            simp [c3, c4] at g0 g1 g2 g3
            obtain ⟨n0, e0, _, w0⟩ := DataW.trod_int Try.underlying5 g0
            obtain ⟨n1, e1, _, w1⟩ := DataW.trod_int Try.underlying5 g1
            obtain ⟨n2, e2, _, w2⟩ := DataW.trod_int Try.underlying5 g2
            obtain ⟨n3, e3, _, w3⟩ := DataW.trod_int Try.underlying114 g3
            obtain ⟨L4, r4, l4, b4⟩ := cut_one Try.underlying24 f1
            obtain ⟨n5, e5, _, w5⟩ := DataW.trod_int Try.underlying5 f2
            obtain ⟨n6, e6, _, w6⟩ := DataW.trod_int Try.underlying5 f3
            simp at e0 e1 e2 e3 e5 e6
            subst e0 e1 e2 e3 e5 e6
            have h9 : (⟨n0, n1, n2, n3⟩ : Hd).Ok := hd_ok w0 w1 w2 w3
            refine ⟨(⟨⟨n0, n1, n2, n3⟩, L4, n5, n6⟩, u4), ⟨h9, l4, b4, byte_bd w5, byte_bd w6⟩, ?_, ?_, ?_, ?_, ?_, ?_, ?_, r4⟩
            · have := hat 0 (by omega)
              simpa [Addr.add] using this
            · simpa using hat 1 (by omega)
            · simpa using hat 2 (by omega)
            · simpa using hat 3 (by omega)
            · simpa using hat 4 (by omega)
            · simpa using hat 5 (by omega)
            · simpa using hat 6 (by omega)
    obtain ⟨f, hf⟩ := choose_lt one
    have hlen : ((List.range len).map fun i => (f i).1).length = len := by simp
    refine ⟨(List.range len).map fun i => (f i).1, ⟨some p, m, by rw [hlen], fun hne => ?_⟩, by rw [hlen]; omega, ?_⟩
    · have h0 : 0 < len := by
        rcases Nat.eq_zero_or_pos len with h | h
        · subst h; simp at hne
        · exact h
      obtain ⟨b, off, spot⟩ := p
      have h00 := (hf 0 (by omega)).2.1
      have hspot : spot = none := by simpa [Addr.add] using World.cell?_spot h00
      subst hspot
      refine ⟨b, off, rfl, ?_, fun i e hi => ?_⟩
      · have := World.block_lt_of_cell? W _ h00
        simpa [Addr.add] using this
      · obtain ⟨hi1, hi2⟩ := List.getElem?_eq_some_iff.1 hi
        simp at hi1 hi2
        obtain ⟨_, g0, g1, g2, g3, g4, g5, g6, g7⟩ := hf i (by omega)
        rw [hi2] at g0 g1 g2 g3 g5 g6 g7
        rw [add_at] at g0 g1 g2 g3 g4 g5 g6
        rw [add_at] at g1 g2 g3 g4 g5 g6
        exact ⟨(f i).2, g0, g1, g2, g3, g4, g5, g6, g7⟩
    · intro q hq
      obtain ⟨i, hi, rfl⟩ := List.mem_map.1 hq
      have := List.mem_range.1 hi
      exact (hf i (by omega)).1
end
end Go.Proofs.Ytkolhjglehnigaa.Open
namespace Go.Proofs.Ytkolhjglehnigaa.Rec
open Go.RowKit Base Iac Head
set_option linter.unusedVariables false

theorem rec_two : escL [255, 1] ++ [255, 239] = [255, 255, 1, 255, 239] := by decide
def nmI : ByteArray := ⟨#[73, 66, 77]⟩
theorem nmI_clean : Talk.cleaned nmI = nmI := by decide +kernel
theorem ok7 : Hd.Ok ⟨0, 0, 0, 7⟩ := by constructor <;> decide
theorem rI (nm : ByteArray) : Talk.takeR nm (Talk.M0 true) Talk.S0 false 4 253 25 [] = (Opt.upd Talk.S0 281 1, false, [255, 251, 25]) := rfl
/-- The record, split. -/
theorem split_one (v : Value) (w : World) (h : RowOf .u8 w v [255, 255, 1, 255, 239]) : Calls Try.prog 66 #[v] w fun e w' => Below w.heap.size w w' ∧ ∃ g c u, e = .returned (.tuple #[.slice (some ⟨g, 0, none⟩) 1 c, .int .i64 0, .int .i64 0]) ∧ g < w'.heap.size ∧ w'.cell? ⟨g, 0, none⟩ = some u ∧ RowOf .u8 w' u [255, 1] := by
  have hL : ([255, 255, 1, 255, 239] : List Int) = recsL [[255, 1]] := by decide
  refine (split_any v _ w h (by simp)).mono ?_
  rintro e w' ⟨hb, hs⟩
  rw [hL, if_pos (split_recs _)] at hs
  obtain ⟨u, R, rfl, hR, hm⟩ := hs
  have hrun : runM (feedD dec0 (recsL [[255, 1]])).2 = ⟨[], false, [[255, 1]], 0⟩ := by
    rw [feed_recs]
    refine run_recs _ fun r hr => ?_
    rw [List.mem_singleton.1 hr]
    decide
  rw [hrun] at hm
  rw [hrun]
  match R, hm, hR with
  | [(r, x)], hm, hR =>
    simp only [List.map_cons, List.map_nil, List.cons.injEq, and_true] at hm
    subst hm
    have ho := (hR.own ([255, 1], x) (by simp)).row
    rcases hR.row.2 with ⟨_, h0⟩ | ⟨g, cap, cur, rfl, hg, hgb, _⟩
    · simp at h0
    · refine ⟨hb, g, cap, x, rfl, lt_of_block hgb, ?_, ho⟩
      have := hR.row.cellAt (g := g) 0 (by simp)
      simpa using this
set_option maxRecDepth 100000 in
set_option maxHeartbeats 4000000 in
theorem sound_line (w : World) : Calls Try.prog 72 #[] w fun e w' => e = .returned (.bool true) ∧ Below w.heap.size w w' := by
  have hze := (zero_of_info Talk.info_ev0).1
  have hz := (zero_of_info info_hd).1
  have hl1 := (lit_own w #[.int .u8 255, .int .u8 1] [255, 1] rfl (by simp [maxLen]) 2 rfl)
  have hb1 := below_alloc w (.cells #[.int .u8 255, .int .u8 1] 5)
  have HNEW : Hid (∀ w, Calls Try.prog 36 #[.string ⟨#[73, 66, 77]⟩, .bool true] w (Talk.NewK nmI true w)) := Lib.hid fun w => by
    have := Talk.talk_new nmI true w (by unfold maxLen; decide)
    rw [nmI_clean] at this
    exact this
  go_enter Try.func72, Try.ntmps72
  go_wp2_with fail
  refine (record_any _ [255, 1] _ hl1.row (by simp)).mono ?_
  rw [rec_two]
  rintro e W2 ⟨p2, rfl, hp2, hb2⟩
  have HR2 := Lib.hid hp2.row
  have HB2 := Lib.hid (hb1.trans (hb2.mono hb1.size))
  clear hp2 hb2 hb1 hl1
  go_wp2_with fail
  refine (split_one _ W2 HR2.out).mono ?_
  rintro e W3 ⟨hb3, g, c, u, rfl, hg, hcu, hu⟩
  have HB3 := Lib.hid (HB2.out.trans (hb3.mono HB2.out.size))
  have HC := Lib.hid hcu
  have HG := Lib.hid hg
  have HU := Lib.hid hu
  clear hb3 hcu hg hu
  go_wp2_with fail
  refine (HNEW.out W3).mono ?_
  rintro e W4 ⟨b, rfl, ht4, hb4, hlo4⟩
  have HQ4 : Hid (Talk.TQ w b nmI (Talk.M0 true) Talk.S0 false W4) := Lib.hid ⟨ht4, HB3.out.trans (hb4.mono HB3.out.size), Nat.le_trans HB3.out.size hlo4⟩
  have HC4 := Lib.hid ((hb4.cell (p := ⟨g, 0, none⟩) HG.out).trans HC.out)
  have HU4 : Hid (Talk.Far b W4 u [255, 1]) := Lib.hid ((HU.out.lowK.below hb4).mono fun k hk => by omega)
  have hgb : g ≠ b := by have := HG.out; omega
  have HG4 : Hid (g < W4.heap.size) := Lib.hid (by have := HG.out; have := hb4.size; omega)
  clear ht4 hb4 hlo4
  go_wp2_with fail
  refine (Talk.take_verb HQ4.out Talk.le5_S0 (by decide) 253 25 (by omega) _ (rI _)).mono ?_
  rintro e W5 ⟨p5, rfl, hq5, hf5, hu5⟩
  have HQ5 := Lib.hid hq5
  have HF5 := Lib.hid hf5.row
  have HC5 := Lib.hid ((cell_block (hu5.block g HG4.out hgb) _).trans HC4.out)
  have HU5 := Lib.hid (HU4.out.turn hu5).row
  have HG5 : Hid (g < W5.heap.size) := Lib.hid (by have := HG4.out; have := hu5.size; omega)
  clear hq5 hf5 hu5
  go_wp2_with fail
  have hl6 := (lit_own W5 #[.int .u8 1] [1] rfl (by simp [maxLen]) 1 rfl)
  have hb6 := below_alloc W5 (.cells #[.int .u8 1] 5)
  refine (hwrite_any ⟨0, 0, 0, 7⟩ ok7 _ [1] _ hl6.row (fun n c e => by cases e) (by simp)).mono ?_
  rintro e W7 ⟨p7, rfl, hp7, hb7⟩
  have hb57 := hb6.trans (hb7.mono hb6.size)
  have HB7 := Lib.hid (HQ5.out.old.trans (hb57.mono HQ5.out.old.size))
  have HC7 := Lib.hid ((hb57.cell (p := ⟨g, 0, none⟩) HG5.out).trans HC5.out)
  have HU7 := Lib.hid (HU5.out.below hb57)
  have HF7 := Lib.hid (HF5.out.below hb57)
  have HG7 : Hid (g < W7.heap.size) := Lib.hid (by have := HG5.out; have := hb57.size; omega)
  have HP7 := Lib.hid hp7.cut
  clear hl6 hb6 hp7 hb7 hb57
  go_wp2_with fail
  refine (show Calls Try.prog 76 #[p7] W7 fun e w' => ∃ p, e = .returned (.tuple #[.agg #[.int .u8 0, .int .u8 0, .int .u8 0, .int .u16 7], p, .int .i64 0]) ∧ OwnBytes W7.heap.size w' p [1] ∧ Below W7.heap.size W7 w' from parse_at ⟨0, 0, 0, 7⟩ [1] _ _ W7 rfl rfl HP7.out (by simp [hdL]) (by intro x hx; simp [hdL] at hx; omega) (by decide)).mono ?_
  rintro e W8 ⟨p8, rfl, hp8, hb8⟩
  obtain ⟨a8, c8, rfl⟩ := hp8.slice
  have HB8 := Lib.hid (HB7.out.trans (hb8.mono HB7.out.size))
  have HC8 := Lib.hid ((hb8.cell (p := ⟨g, 0, none⟩) HG7.out).trans HC7.out)
  have HU8 := Lib.hid (HU7.out.below hb8)
  have HF8 := Lib.hid (HF7.out.below hb8)
  have HG8 : Hid (g < W8.heap.size) := Lib.hid (by have := HG7.out; have := hb8.size; omega)
  clear hp8 hb8
  have hb9 := below_alloc W8 (.cells #[.int .u8 0, .int .u8 0, .int .u8 0, .int .u16 7] 116)
  have hs8 : (convert 24 9 u).run Try.prog (W8.alloc (.cells #[.int .u8 0, .int .u8 0, .int .u8 0, .int .u16 7] 116)) = .ok (.string ⟨#[255, 1]⟩) (W8.alloc (.cells #[.int .u8 0, .int .u8 0, .int .u8 0, .int .u16 7] 116)) := row_str (HU8.out.below hb9)
  have hs9 : (convert 24 9 p5).run Try.prog (W8.alloc (.cells #[.int .u8 0, .int .u8 0, .int .u8 0, .int .u16 7] 116)) = .ok (.string ⟨#[255, 251, 25]⟩) (W8.alloc (.cells #[.int .u8 0, .int .u8 0, .int .u8 0, .int .u16 7] 116)) := row_str (HF8.out.below hb9)
  have hc9 := (hb9.cell (p := ⟨g, 0, none⟩) HG8.out).trans HC8.out
  go_wp2_with fail
  go_ret
  exact ⟨rfl, HB8.out.trans (hb9.mono HB8.out.size)⟩
end Go.Proofs.Ytkolhjglehnigaa.Rec
