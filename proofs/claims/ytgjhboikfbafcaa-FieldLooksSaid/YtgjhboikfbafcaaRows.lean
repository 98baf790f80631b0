/-
  No cell of these rows narrows 'for every input' (looked for: loops, veiled, ifaces, maps, wideKeys, modest, calm, conditions, laid).
  DERIVED. THE GIVEN ROWS OF THIS SEAT. 4 by the template 'for every input the law returns true; each argument reads behind the call as it read before'; 0 by the template 'total and deterministic' (their statements: YtgjhboikfbafcaaTotals.lean).
  GIVEN WITH THE SEED: the statements are not yours to turn. If you find one false, say at which input.
  Laid BY PROGRAM, IN A SANDBOX (cutbox-rows.mjs): the forced cells as the released guide's own fill.sh prints them over the translation 0f64c7a0dc3881f1… (all of the seat's roots in one cut). By AI agents, Wed Nov 11 2026. No macro, syntax, notation, axiom, sorry.
-/
import Derived.Test.YtgjhboikfbafcaaChecked
import GoSem.Claim
import GoSem.ClaimJoined
import GoSem.ClaimMapViews
import Derived.JoinedTies
import Derived.KernelRfl
namespace Go.Proofs.Ytgjhboikfbafcaa
/- THE CELL 'sum', in the pinned program and in every row, IS THE sha256 OF THE DUMP (.gsa) THAT YtgjhboikfbafcaaProg.lean LOADS. Nothing in Lean hashes anything: it is a label: what it is worth is what the hold of that sum in a sandbox is worth. -/
noncomputable def Try.pinned : Pinned := { name := "ytgjhboikfbafcaa", sum := "0f64c7a0dc3881f135c9171d6ccca81e0c8f5bc51a13ba94fbab1e75bf16c962", checked := Try.checked }
namespace Rows
def none {H : Type} : Left H := { results := [], args := [] }

/-- 'greenscreenlaw15.FieldLooks': WHATEVER THE INPUT: true; the input reads as it did. -/
def fieldLooksSpec : ChangeSpec := { name := "fieldLooks", fn := fun _ => fun
  | [d1, d2, d3, d4, d5] => { results := [.lit (.bool true)], args := [d1, d2, d3, d4, d5] }
  | _ => none }
def fieldLooksRow : OpenClaim := { program := "ytgjhboikfbafcaa", sum := "0f64c7a0dc3881f135c9171d6ccca81e0c8f5bc51a13ba94fbab1e75bf16c962", func := "greenscreen/greenscreenlaw15.FieldLooks", spec := "fieldLooks", inPlace := ["internal/abi.NoEscape", "internal/bytealg.MakeNoZero"], unfollowed := true, recurses := true, apart := false }
def FieldLooksSaid : Prop := fieldLooksRow.holds Try.pinned (OpenSpec.ofChange fieldLooksSpec)

/-- ITS FALSE NEIGHBOUR: 'it returns false'. Refute it at one input. -/
def fieldLooksWrong : ChangeSpec := { name := "fieldLooks", fn := fun _ => fun
  | [d1, d2, d3, d4, d5] => { results := [.lit (.bool false)], args := [d1, d2, d3, d4, d5] }
  | _ => none }
def FieldLooksWrongFalsely : Prop := fieldLooksRow.holds Try.pinned (OpenSpec.ofChange fieldLooksWrong)

/-- 'greenscreenlaw16.PaintPlays': WHATEVER THE INPUT: true; the input reads as it did. -/
def paintPlaysSpec : ChangeSpec := { name := "paintPlays", fn := fun _ => fun
  | [d1, d2, d3, d4] => { results := [.lit (.bool true)], args := [d1, d2, d3, d4] }
  | _ => none }
def paintPlaysRow : OpenClaim := { program := "ytgjhboikfbafcaa", sum := "0f64c7a0dc3881f135c9171d6ccca81e0c8f5bc51a13ba94fbab1e75bf16c962", func := "greenscreen/greenscreenlaw16.PaintPlays", spec := "paintPlays", unfollowed := true, recurses := true, apart := false }
def PaintPlaysSaid : Prop := paintPlaysRow.holds Try.pinned (OpenSpec.ofChange paintPlaysSpec)

/-- ITS FALSE NEIGHBOUR: 'it returns false'. Refute it at one input. -/
def paintPlaysWrong : ChangeSpec := { name := "paintPlays", fn := fun _ => fun
  | [d1, d2, d3, d4] => { results := [.lit (.bool false)], args := [d1, d2, d3, d4] }
  | _ => none }
def PaintPlaysWrongFalsely : Prop := paintPlaysRow.holds Try.pinned (OpenSpec.ofChange paintPlaysWrong)

/-- 'greenscreenlaw17.WipeKeeps': WHATEVER THE INPUT: true; the input reads as it did. -/
def wipeKeepsSpec : ChangeSpec := { name := "wipeKeeps", fn := fun _ => fun
  | [d1, d2, d3] => { results := [.lit (.bool true)], args := [d1, d2, d3] }
  | _ => none }
def wipeKeepsRow : OpenClaim := { program := "ytgjhboikfbafcaa", sum := "0f64c7a0dc3881f135c9171d6ccca81e0c8f5bc51a13ba94fbab1e75bf16c962", func := "greenscreen/greenscreenlaw17.WipeKeeps", spec := "wipeKeeps", unfollowed := true, recurses := true, apart := false }
def WipeKeepsSaid : Prop := wipeKeepsRow.holds Try.pinned (OpenSpec.ofChange wipeKeepsSpec)

/-- ITS FALSE NEIGHBOUR: 'it returns false'. Refute it at one input. -/
def wipeKeepsWrong : ChangeSpec := { name := "wipeKeeps", fn := fun _ => fun
  | [d1, d2, d3] => { results := [.lit (.bool false)], args := [d1, d2, d3] }
  | _ => none }
def WipeKeepsWrongFalsely : Prop := wipeKeepsRow.holds Try.pinned (OpenSpec.ofChange wipeKeepsWrong)

/-- 'greenscreenlaw17.WipeInsides': WHATEVER THE INPUT: true; the input reads as it did. -/
def wipeInsidesSpec : ChangeSpec := { name := "wipeInsides", fn := fun _ => fun
  | [d1, d2, d3] => { results := [.lit (.bool true)], args := [d1, d2, d3] }
  | _ => none }
def wipeInsidesRow : OpenClaim := { program := "ytgjhboikfbafcaa", sum := "0f64c7a0dc3881f135c9171d6ccca81e0c8f5bc51a13ba94fbab1e75bf16c962", func := "greenscreen/greenscreenlaw17.WipeInsides", spec := "wipeInsides", unfollowed := true, recurses := true, apart := false }
def WipeInsidesSaid : Prop := wipeInsidesRow.holds Try.pinned (OpenSpec.ofChange wipeInsidesSpec)

/-- ITS FALSE NEIGHBOUR: 'it returns false'. Refute it at one input. -/
def wipeInsidesWrong : ChangeSpec := { name := "wipeInsides", fn := fun _ => fun
  | [d1, d2, d3] => { results := [.lit (.bool false)], args := [d1, d2, d3] }
  | _ => none }
def WipeInsidesWrongFalsely : Prop := wipeInsidesRow.holds Try.pinned (OpenSpec.ofChange wipeInsidesWrong)

/- THE SECOND FORM. 'bulk': how many values and letters a reading holds, each counted each time it is reached (what is shared counts as often as it is met; a slice's spare places count too). A statement '..UptoSaid' is the law's where the arguments, and the package variables that the reading takes, are together of bulk at most 1048576: NARROWER than '..Said'. Prove '..Said' where nothing that the law and all that it calls make is longer than what came in: it says more and counts as full. Else prove '..UptoSaid'. A law counts once. -/
mutual
def uptoBulk {H : Type} : DataW H → Nat
  | .lit (.string bytes) => bytes.length + 1
  | .lit _ => 1
  | .nil => 1
  | .ptr d => uptoBulk d + 1
  | .slice elems spare => uptoBulkAll elems + uptoBulkAll spare + 1
  | .agg parts => uptoBulkAll parts + 1
  | .iface _ d => uptoBulk d + 1
  | .map entries => uptoBulkEntries entries + 1
  | .held _ => 1
def uptoBulkAll {H : Type} : List (DataW H) → Nat
  | [] => 0
  | d :: r => uptoBulk d + uptoBulkAll r
def uptoBulkEntries {H : Type} : List (Lit × DataW H) → Nat
  | [] => 0
  | x :: r => uptoBulkEntry x + uptoBulkEntries r
def uptoBulkEntry {H : Type} : Lit × DataW H → Nat
  | (.string bytes, d) => bytes.length + uptoBulk d + 1
  | (_, d) => uptoBulk d + 1
 end
def uptoSmall : (H : Type) → List (DataW H) → Bool := fun _ ds => decide (uptoBulkAll ds ≤ 1048576)
def OpenSpec.upto (s : _root_.Go.ChangeSpec) : _root_.Go.OpenSpec := { _root_.Go.OpenSpec.ofChange s with cond := some uptoSmall }

/-- 'greenscreenlaw15.FieldLooks', WHERE WHAT IT READS IS OF BULK AT MOST 1048576: true; the input reads as it did. -/
def fieldLooksUptoRow : OpenClaim := { program := "ytgjhboikfbafcaa", sum := "0f64c7a0dc3881f135c9171d6ccca81e0c8f5bc51a13ba94fbab1e75bf16c962", func := "greenscreen/greenscreenlaw15.FieldLooks", spec := "fieldLooks", inPlace := ["internal/abi.NoEscape", "internal/bytealg.MakeNoZero"], unfollowed := true, recurses := true, apart := false, narrowed := true }
def FieldLooksUptoSaid : Prop := fieldLooksUptoRow.holds Try.pinned (OpenSpec.upto fieldLooksSpec)

/-- 'greenscreenlaw16.PaintPlays', WHERE WHAT IT READS IS OF BULK AT MOST 1048576: true; the input reads as it did. -/
def paintPlaysUptoRow : OpenClaim := { program := "ytgjhboikfbafcaa", sum := "0f64c7a0dc3881f135c9171d6ccca81e0c8f5bc51a13ba94fbab1e75bf16c962", func := "greenscreen/greenscreenlaw16.PaintPlays", spec := "paintPlays", unfollowed := true, recurses := true, apart := false, narrowed := true }
def PaintPlaysUptoSaid : Prop := paintPlaysUptoRow.holds Try.pinned (OpenSpec.upto paintPlaysSpec)

/-- 'greenscreenlaw17.WipeKeeps', WHERE WHAT IT READS IS OF BULK AT MOST 1048576: true; the input reads as it did. -/
def wipeKeepsUptoRow : OpenClaim := { program := "ytgjhboikfbafcaa", sum := "0f64c7a0dc3881f135c9171d6ccca81e0c8f5bc51a13ba94fbab1e75bf16c962", func := "greenscreen/greenscreenlaw17.WipeKeeps", spec := "wipeKeeps", unfollowed := true, recurses := true, apart := false, narrowed := true }
def WipeKeepsUptoSaid : Prop := wipeKeepsUptoRow.holds Try.pinned (OpenSpec.upto wipeKeepsSpec)

/-- 'greenscreenlaw17.WipeInsides', WHERE WHAT IT READS IS OF BULK AT MOST 1048576: true; the input reads as it did. -/
def wipeInsidesUptoRow : OpenClaim := { program := "ytgjhboikfbafcaa", sum := "0f64c7a0dc3881f135c9171d6ccca81e0c8f5bc51a13ba94fbab1e75bf16c962", func := "greenscreen/greenscreenlaw17.WipeInsides", spec := "wipeInsides", unfollowed := true, recurses := true, apart := false, narrowed := true }
def WipeInsidesUptoSaid : Prop := wipeInsidesUptoRow.holds Try.pinned (OpenSpec.upto wipeInsidesSpec)

end Rows
end Go.Proofs.Ytgjhboikfbafcaa
