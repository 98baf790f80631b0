/-
For all bytes, headers and errors, HeaderBytes returns true: the bytes have the header, the header the bytes, the answer and the sense, that the reference says. It is proved for all of them, without conditions.
-/
import Derived.Test.YtfijcdidcnfadaaHeaderBytesWalk
import Derived.ProofKit
import Derived.OpenShut
import Derived.ShutString
import Derived.ChangeOld
import Derived.Below
import Derived.Lib.SmallJoins
namespace Go.Proofs.Ytfijcdidcnfadaa.headerBytes
open Go.ChangeShapes Go.WideShapes Go.ChangeAt Go.RowKit Go.Joins
open Go.ChangeMaps (open_string shut_string)
set_option linter.unusedVariables false

theorem own : ownKnob Try.prog.godebug = none := by kernel_rfl
theorem laidOut : laidOutB Try.prog = true := by kernel_rfl
theorem cellsHeader : Try.prog.cellsOf 25 = 4 := by kernel_rfl

set_option maxRecDepth 100000 in
theorem lifted (os : Os) (started : os.Started) (H : Type) (enc : TypeId × Value → H) :
    ReturnsInHanded {} Try.checked os 3 .any (Rows.headerBytesSpec.pre6 enc Try.prog Try.f3 Rows.headerBytesRow.domain false) (Rows.headerBytesSpec.post enc Try.prog Try.f3 false true false false) := by
  refine returnsInHanded_of_change (C := Try.checked) own started (by kernel_rfl) Try.func3
    (ChangeSpec.witness6 (enc := enc) (C := Try.checked) false ⟨#[], #[.slice none 0 0, .agg #[.int .u8 0, .int .u8 0, .int .u8 0, .int .u16 0], .int .i64 0, .slice none 0 0], []⟩ 8 (by kernel_rfl) (by kernel_rfl) (by kernel_rfl) (by kernel_rfl)) ?_
  intro W base args ds gs before hval0 hW hcnd _
  have hval : ∀ (j : Nat) t v, Try.f3.params[j]? = some t → args[j]? = some v → Value.okWide Try.prog W .any base t v := hval0
  have hW' := hW
  obtain ⟨p, q, hA0, hV, rfl, hfz, hnd⟩ := hW
  have hA : DataW.TrodAll enc Try.prog W 0 (fun _ => true) true Try.f3.params.toList args.toList ds p := hA0
  rw [Try.params3] at hA hval
  obtain ⟨v0, vs0, d0, ds0, p0, q0, hargs, rfl, rfl, h0, r0⟩ := trodAll_cons hA
  obtain ⟨v1, vs1, d1, ds1, p1, q1, rfl, rfl, rfl, h1, r1⟩ := trodAll_cons r0
  obtain ⟨v2, vs2, d2, ds2, p2, q2, rfl, rfl, rfl, h2, r2⟩ := trodAll_cons r1
  obtain ⟨v3, vs3, d3, ds3, p3, q3, rfl, rfl, rfl, h3, r3⟩ := trodAll_cons r2
  obtain ⟨rfl, rfl, rfl⟩ := trodAll_nil r3
  obtain rfl : args = #[v0, v1, v2, v3] := by cases args; simp_all
  obtain ⟨rfl, rfl⟩ := trodVars_none hV
  have k0 := h0
  have lt0 : ∀ x ∈ p0, x.block < W.heap.size := by obtain ⟨m, hm⟩ := k0; exact DataW.trod_lt m _ _ _ hm
  obtain ⟨a0, len0, cap0, rfl⟩ := okWide_slice Try.underlying22 (hval 0 22 v0 rfl rfl)
  obtain ⟨b, w0⟩ : ∃ L : List Int, Base.CutRow W (.slice a0 len0 cap0) L ∧ L.length ≤ maxLen ∧ ∀ n ∈ L, Open.Byte n := by
    obtain ⟨fuel, hf⟩ := h0
    exact Open.cut_open Try.underlying22 hf
  have k1 := h1
  have lt1 : ∀ x ∈ p1, x.block < W.heap.size := by obtain ⟨m, hm⟩ := k1; exact DataW.trod_lt m _ _ _ hm
  obtain ⟨x1, z1, p1q, q1q, yx1, yz1, yp1, yq1, m1, rfl, e1d, e1p, tx1, tz1, tp1, tq1⟩ := open_agg4 Try.underlying25 (by kernel_rfl) cellsHeader (hval 1 25 v1 rfl rfl) h1
  obtain ⟨ht, u_ht, v_ht, w_ht⟩ := DataW.trod_int Try.underlying5 tx1
  simp at u_ht
  subst u_ht
  obtain ⟨hq, u_hq, v_hq, w_hq⟩ := DataW.trod_int Try.underlying5 tz1
  simp at u_hq
  subst u_hq
  obtain ⟨hr, u_hr, v_hr, w_hr⟩ := DataW.trod_int Try.underlying5 tp1
  simp at u_hr
  subst u_hr
  obtain ⟨hs, u_hs, v_hs, w_hs⟩ := DataW.trod_int Try.underlying23 tq1
  simp at u_hs
  subst u_hs
  have k2 := h2
  have lt2 : ∀ x ∈ p2, x.block < W.heap.size := by obtain ⟨m, hm⟩ := k2; exact DataW.trod_lt m _ _ _ hm
  obtain ⟨e, rfl, e2d, e2p, w2⟩ := open_int Try.underlying26 (hval 2 26 v2 rfl rfl) h2
  have k3 := h3
  have lt3 : ∀ x ∈ p3, x.block < W.heap.size := by obtain ⟨m, hm⟩ := k3; exact DataW.trod_lt m _ _ _ hm
  obtain ⟨a3, len3, cap3, rfl⟩ := okWide_slice Try.underlying22 (hval 3 22 v3 rfl rfl)
  obtain ⟨rest, w3⟩ : ∃ L : List Int, Base.CutRow W (.slice a3 len3 cap3) L ∧ L.length ≤ maxLen ∧ ∀ n ∈ L, Open.Byte n := by
    obtain ⟨fuel, hf⟩ := h3
    exact Open.cut_open Try.underlying22 hf
  clear hA0 hval0
  refine (Head.headerBytes_law (w := W) (.slice a0 len0 cap0) b w0 ⟨ht, hq, hr, hs⟩ (Head.hd_ok w_ht w_hq w_hr w_hs) e w2 (.slice a3 len3 cap3) rest w3).mono fun e W' ⟨he, bel⟩ => ?_
  subst he
  exact ⟨_, rfl, _, _, _, [], _, [], hW', trodAll_mk1 (shut_bool Try.underlying4 _), (trodAll_cons_mk (Below.trod laidOut (by kernel_rfl) (of_decide_eq_true (by kernel_rfl)) k0 bel lt0) (trodAll_cons_mk (Below.trod laidOut (by kernel_rfl) (of_decide_eq_true (by kernel_rfl)) k1 bel lt1) (trodAll_cons_mk (Below.trod laidOut (by kernel_rfl) (of_decide_eq_true (by kernel_rfl)) k2 bel lt2) (trodAll_cons_mk (Below.trod laidOut (by kernel_rfl) (of_decide_eq_true (by kernel_rfl)) k3 bel lt3) trodAll_mk0)))), rfl, bel.frame _, fun h => by cases h⟩

theorem over : Rows.headerBytesRow.holds Try.pinned (OpenSpec.ofChange Rows.headerBytesSpec) :=
  OpenClaim.holds_of_wide 3 Try.f3 rfl rfl rfl rfl rfl rfl rfl ⟨rfl, rfl, rfl, rfl, rfl⟩ rfl rfl rfl rfl rfl (by kernel_rfl) Try.func3 (by kernel_rfl)
    (of_decide_eq_true (by kernel_rfl)) (by unfold Func.isWrapper; first | (rw [if_pos (by decide +kernel)]; kernel_rfl) | (rw [if_neg (by decide +kernel)]; exact ⟨rfl, rfl⟩))
    (fun os started H enc _ => lifted os started H enc)

/-- The statement. -/
theorem proved : Rows.HeaderBytesSaid := over
#print axioms proved
end Go.Proofs.Ytfijcdidcnfadaa.headerBytes
