/-
  No cell of these rows narrows 'for every input' (looked for: loops, veiled, ifaces, maps, wideKeys, modest, calm, conditions, laid).
  DERIVED. THE GIVEN ROWS OF THIS SEAT. 9 by the template 'for every input the law returns true; each argument reads behind the call as it read before'; 0 by the template 'total and deterministic' (their statements: YtbliangchllmhaaTotals.lean).
  GIVEN WITH THE SEED: the statements are not yours to turn. If you find one false, say at which input.
  Laid BY PROGRAM, IN A SANDBOX (cutbox-rows.mjs): the forced cells as the released guide's own fill.sh prints them over the translation c05e36083f240ab5… (all of the seat's roots in one cut). By AI agents, Wed Nov 11 2026. No macro, syntax, notation, axiom, sorry.
-/
import Derived.Test.YtbliangchllmhaaChecked
import GoSem.Claim
import GoSem.ClaimJoined
import GoSem.ClaimMapViews
import Derived.JoinedTies
import Derived.KernelRfl
namespace Go.Proofs.Ytbliangchllmhaa
/- THE CELL 'sum', in the pinned program and in every row, IS THE sha256 OF THE DUMP (.gsa) THAT YtbliangchllmhaaProg.lean LOADS. Nothing in Lean hashes anything: it is a label: what it is worth is what the hold of that sum in a sandbox is worth. -/
noncomputable def Try.pinned : Pinned := { name := "ytbliangchllmhaa", sum := "c05e36083f240ab546c538f39cdbb10f4e49556d479904f22137c67f792ffdac", checked := Try.checked }
namespace Rows
def none {H : Type} : Left H := { results := [], args := [] }

/-- 'greenscreenlaw05.IacFeeds': WHATEVER THE INPUT: true; the input reads as it did. -/
def iacFeedsSpec : ChangeSpec := { name := "iacFeeds", fn := fun _ => fun
  | [d1, d2] => { results := [.lit (.bool true)], args := [d1, d2] }
  | _ => none }
def iacFeedsRow : OpenClaim := { program := "ytbliangchllmhaa", sum := "c05e36083f240ab546c538f39cdbb10f4e49556d479904f22137c67f792ffdac", func := "greenscreen/greenscreenlaw05.IacFeeds", spec := "iacFeeds", apart := false }
def IacFeedsSaid : Prop := iacFeedsRow.holds Try.pinned (OpenSpec.ofChange iacFeedsSpec)

/-- ITS FALSE NEIGHBOUR: 'it returns false'. Refute it at one input. -/
def iacFeedsWrong : ChangeSpec := { name := "iacFeeds", fn := fun _ => fun
  | [d1, d2] => { results := [.lit (.bool false)], args := [d1, d2] }
  | _ => none }
def IacFeedsWrongFalsely : Prop := iacFeedsRow.holds Try.pinned (OpenSpec.ofChange iacFeedsWrong)

/-- 'greenscreenlaw05.IacCuts': WHATEVER THE INPUT: true; the input reads as it did. -/
def iacCutsSpec : ChangeSpec := { name := "iacCuts", fn := fun _ => fun
  | [d1, d2] => { results := [.lit (.bool true)], args := [d1, d2] }
  | _ => none }
def iacCutsRow : OpenClaim := { program := "ytbliangchllmhaa", sum := "c05e36083f240ab546c538f39cdbb10f4e49556d479904f22137c67f792ffdac", func := "greenscreen/greenscreenlaw05.IacCuts", spec := "iacCuts", apart := false }
def IacCutsSaid : Prop := iacCutsRow.holds Try.pinned (OpenSpec.ofChange iacCutsSpec)

/-- ITS FALSE NEIGHBOUR: 'it returns false'. Refute it at one input. -/
def iacCutsWrong : ChangeSpec := { name := "iacCuts", fn := fun _ => fun
  | [d1, d2] => { results := [.lit (.bool false)], args := [d1, d2] }
  | _ => none }
def IacCutsWrongFalsely : Prop := iacCutsRow.holds Try.pinned (OpenSpec.ofChange iacCutsWrong)

/-- 'greenscreenlaw05.IacWrites': WHATEVER THE INPUT: true; the input reads as it did. -/
def iacWritesSpec : ChangeSpec := { name := "iacWrites", fn := fun _ => fun
  | [d1, d2] => { results := [.lit (.bool true)], args := [d1, d2] }
  | _ => none }
def iacWritesRow : OpenClaim := { program := "ytbliangchllmhaa", sum := "c05e36083f240ab546c538f39cdbb10f4e49556d479904f22137c67f792ffdac", func := "greenscreen/greenscreenlaw05.IacWrites", spec := "iacWrites", apart := false }
def IacWritesSaid : Prop := iacWritesRow.holds Try.pinned (OpenSpec.ofChange iacWritesSpec)

/-- ITS FALSE NEIGHBOUR: 'it returns false'. Refute it at one input. -/
def iacWritesWrong : ChangeSpec := { name := "iacWrites", fn := fun _ => fun
  | [d1, d2] => { results := [.lit (.bool false)], args := [d1, d2] }
  | _ => none }
def IacWritesWrongFalsely : Prop := iacWritesRow.holds Try.pinned (OpenSpec.ofChange iacWritesWrong)

/-- 'greenscreenlaw05.IacBack': WHATEVER THE INPUT: true; the input reads as it did. -/
def iacBackSpec : ChangeSpec := { name := "iacBack", fn := fun _ => fun
  | [d1, d2] => { results := [.lit (.bool true)], args := [d1, d2] }
  | _ => none }
def iacBackRow : OpenClaim := { program := "ytbliangchllmhaa", sum := "c05e36083f240ab546c538f39cdbb10f4e49556d479904f22137c67f792ffdac", func := "greenscreen/greenscreenlaw05.IacBack", spec := "iacBack", apart := false }
def IacBackSaid : Prop := iacBackRow.holds Try.pinned (OpenSpec.ofChange iacBackSpec)

/-- ITS FALSE NEIGHBOUR: 'it returns false'. Refute it at one input. -/
def iacBackWrong : ChangeSpec := { name := "iacBack", fn := fun _ => fun
  | [d1, d2] => { results := [.lit (.bool false)], args := [d1, d2] }
  | _ => none }
def IacBackWrongFalsely : Prop := iacBackRow.holds Try.pinned (OpenSpec.ofChange iacBackWrong)

/-- 'greenscreenlaw05.IacEscapes': WHATEVER THE INPUT: true; the input reads as it did. -/
def iacEscapesSpec : ChangeSpec := { name := "iacEscapes", fn := fun _ => fun
  | [d1, d2] => { results := [.lit (.bool true)], args := [d1, d2] }
  | _ => none }
def iacEscapesRow : OpenClaim := { program := "ytbliangchllmhaa", sum := "c05e36083f240ab546c538f39cdbb10f4e49556d479904f22137c67f792ffdac", func := "greenscreen/greenscreenlaw05.IacEscapes", spec := "iacEscapes", apart := false }
def IacEscapesSaid : Prop := iacEscapesRow.holds Try.pinned (OpenSpec.ofChange iacEscapesSpec)

/-- ITS FALSE NEIGHBOUR: 'it returns false'. Refute it at one input. -/
def iacEscapesWrong : ChangeSpec := { name := "iacEscapes", fn := fun _ => fun
  | [d1, d2] => { results := [.lit (.bool false)], args := [d1, d2] }
  | _ => none }
def IacEscapesWrongFalsely : Prop := iacEscapesRow.holds Try.pinned (OpenSpec.ofChange iacEscapesWrong)

/-- 'greenscreenlaw06.OptionPlays': WHATEVER THE INPUT: true; the input reads as it did. -/
def optionPlaysSpec : ChangeSpec := { name := "optionPlays", fn := fun _ => fun
  | [d1, d2, d3, d4] => { results := [.lit (.bool true)], args := [d1, d2, d3, d4] }
  | _ => none }
def optionPlaysRow : OpenClaim := { program := "ytbliangchllmhaa", sum := "c05e36083f240ab546c538f39cdbb10f4e49556d479904f22137c67f792ffdac", func := "greenscreen/greenscreenlaw06.OptionPlays", spec := "optionPlays", unfollowed := true, recurses := true, apart := false }
def OptionPlaysSaid : Prop := optionPlaysRow.holds Try.pinned (OpenSpec.ofChange optionPlaysSpec)

/-- ITS FALSE NEIGHBOUR: 'it returns false'. Refute it at one input. -/
def optionPlaysWrong : ChangeSpec := { name := "optionPlays", fn := fun _ => fun
  | [d1, d2, d3, d4] => { results := [.lit (.bool false)], args := [d1, d2, d3, d4] }
  | _ => none }
def OptionPlaysWrongFalsely : Prop := optionPlaysRow.holds Try.pinned (OpenSpec.ofChange optionPlaysWrong)

/-- 'greenscreenlaw06.OptionRests': WHATEVER THE INPUT: true; the input reads as it did. -/
def optionRestsSpec : ChangeSpec := { name := "optionRests", fn := fun _ => fun
  | [d1, d2, d3, d4, d5] => { results := [.lit (.bool true)], args := [d1, d2, d3, d4, d5] }
  | _ => none }
def optionRestsRow : OpenClaim := { program := "ytbliangchllmhaa", sum := "c05e36083f240ab546c538f39cdbb10f4e49556d479904f22137c67f792ffdac", func := "greenscreen/greenscreenlaw06.OptionRests", spec := "optionRests", unfollowed := true, recurses := true, apart := false }
def OptionRestsSaid : Prop := optionRestsRow.holds Try.pinned (OpenSpec.ofChange optionRestsSpec)

/-- ITS FALSE NEIGHBOUR: 'it returns false'. Refute it at one input. -/
def optionRestsWrong : ChangeSpec := { name := "optionRests", fn := fun _ => fun
  | [d1, d2, d3, d4, d5] => { results := [.lit (.bool false)], args := [d1, d2, d3, d4, d5] }
  | _ => none }
def OptionRestsWrongFalsely : Prop := optionRestsRow.holds Try.pinned (OpenSpec.ofChange optionRestsWrong)

/-- 'greenscreenlaw06.OptionMay': WHATEVER THE INPUT: true; the input reads as it did. -/
def optionMaySpec : ChangeSpec := { name := "optionMay", fn := fun _ => fun
  | [d1, d2, d3] => { results := [.lit (.bool true)], args := [d1, d2, d3] }
  | _ => none }
def optionMayRow : OpenClaim := { program := "ytbliangchllmhaa", sum := "c05e36083f240ab546c538f39cdbb10f4e49556d479904f22137c67f792ffdac", func := "greenscreen/greenscreenlaw06.OptionMay", spec := "optionMay", unfollowed := true, recurses := true, apart := false }
def OptionMaySaid : Prop := optionMayRow.holds Try.pinned (OpenSpec.ofChange optionMaySpec)

/-- ITS FALSE NEIGHBOUR: 'it returns false'. Refute it at one input. -/
def optionMayWrong : ChangeSpec := { name := "optionMay", fn := fun _ => fun
  | [d1, d2, d3] => { results := [.lit (.bool false)], args := [d1, d2, d3] }
  | _ => none }
def OptionMayWrongFalsely : Prop := optionMayRow.holds Try.pinned (OpenSpec.ofChange optionMayWrong)

/-- 'greenscreenlaw06.OptionTurns': WHATEVER THE INPUT: true; the input reads as it did. -/
def optionTurnsSpec : ChangeSpec := { name := "optionTurns", fn := fun _ => fun
  | [d1, d2] => { results := [.lit (.bool true)], args := [d1, d2] }
  | _ => none }
def optionTurnsRow : OpenClaim := { program := "ytbliangchllmhaa", sum := "c05e36083f240ab546c538f39cdbb10f4e49556d479904f22137c67f792ffdac", func := "greenscreen/greenscreenlaw06.OptionTurns", spec := "optionTurns", unfollowed := true, recurses := true, apart := false }
def OptionTurnsSaid : Prop := optionTurnsRow.holds Try.pinned (OpenSpec.ofChange optionTurnsSpec)

/-- ITS FALSE NEIGHBOUR: 'it returns false'. Refute it at one input. -/
def optionTurnsWrong : ChangeSpec := { name := "optionTurns", fn := fun _ => fun
  | [d1, d2] => { results := [.lit (.bool false)], args := [d1, d2] }
  | _ => none }
def OptionTurnsWrongFalsely : Prop := optionTurnsRow.holds Try.pinned (OpenSpec.ofChange optionTurnsWrong)

/- THE SECOND FORM. 'bulk': how many values and letters a reading holds, each counted each time it is reached (what is shared counts as often as it is met; a slice's spare places count too). A statement '..UptoSaid' is the law's where the arguments, and the package variables that the reading takes, are together of bulk at most 1048576: NARROWER than '..Said'. Prove '..Said' where nothing that the law and all that it calls make is longer than what came in: it says more and counts as full. Else prove '..UptoSaid'. A law counts once. -/
mutual
def uptoBulk {H : Type} : DataW H → Nat
  | .lit (.string bytes) => bytes.length + 1
  | .lit _ => 1
  | .nil => 1
  | .ptr d => uptoBulk d + 1
  | .slice elems spare => uptoBulkAll elems + uptoBulkAll spare + 1
  | .agg parts => uptoBulkAll parts + 1
  | .iface _ d => uptoBulk d + 1
  | .map entries => uptoBulkEntries entries + 1
  | .held _ => 1
def uptoBulkAll {H : Type} : List (DataW H) → Nat
  | [] => 0
  | d :: r => uptoBulk d + uptoBulkAll r
def uptoBulkEntries {H : Type} : List (Lit × DataW H) → Nat
  | [] => 0
  | x :: r => uptoBulkEntry x + uptoBulkEntries r
def uptoBulkEntry {H : Type} : Lit × DataW H → Nat
  | (.string bytes, d) => bytes.length + uptoBulk d + 1
  | (_, d) => uptoBulk d + 1
 end
def uptoSmall : (H : Type) → List (DataW H) → Bool := fun _ ds => decide (uptoBulkAll ds ≤ 1048576)
def OpenSpec.upto (s : _root_.Go.ChangeSpec) : _root_.Go.OpenSpec := { _root_.Go.OpenSpec.ofChange s with cond := some uptoSmall }

/-- 'greenscreenlaw05.IacFeeds', WHERE WHAT IT READS IS OF BULK AT MOST 1048576: true; the input reads as it did. -/
def iacFeedsUptoRow : OpenClaim := { program := "ytbliangchllmhaa", sum := "c05e36083f240ab546c538f39cdbb10f4e49556d479904f22137c67f792ffdac", func := "greenscreen/greenscreenlaw05.IacFeeds", spec := "iacFeeds", apart := false, narrowed := true }
def IacFeedsUptoSaid : Prop := iacFeedsUptoRow.holds Try.pinned (OpenSpec.upto iacFeedsSpec)

/-- 'greenscreenlaw05.IacCuts', WHERE WHAT IT READS IS OF BULK AT MOST 1048576: true; the input reads as it did. -/
def iacCutsUptoRow : OpenClaim := { program := "ytbliangchllmhaa", sum := "c05e36083f240ab546c538f39cdbb10f4e49556d479904f22137c67f792ffdac", func := "greenscreen/greenscreenlaw05.IacCuts", spec := "iacCuts", apart := false, narrowed := true }
def IacCutsUptoSaid : Prop := iacCutsUptoRow.holds Try.pinned (OpenSpec.upto iacCutsSpec)

/-- 'greenscreenlaw05.IacWrites', WHERE WHAT IT READS IS OF BULK AT MOST 1048576: true; the input reads as it did. -/
def iacWritesUptoRow : OpenClaim := { program := "ytbliangchllmhaa", sum := "c05e36083f240ab546c538f39cdbb10f4e49556d479904f22137c67f792ffdac", func := "greenscreen/greenscreenlaw05.IacWrites", spec := "iacWrites", apart := false, narrowed := true }
def IacWritesUptoSaid : Prop := iacWritesUptoRow.holds Try.pinned (OpenSpec.upto iacWritesSpec)

/-- 'greenscreenlaw05.IacBack', WHERE WHAT IT READS IS OF BULK AT MOST 1048576: true; the input reads as it did. -/
def iacBackUptoRow : OpenClaim := { program := "ytbliangchllmhaa", sum := "c05e36083f240ab546c538f39cdbb10f4e49556d479904f22137c67f792ffdac", func := "greenscreen/greenscreenlaw05.IacBack", spec := "iacBack", apart := false, narrowed := true }
def IacBackUptoSaid : Prop := iacBackUptoRow.holds Try.pinned (OpenSpec.upto iacBackSpec)

/-- 'greenscreenlaw05.IacEscapes', WHERE WHAT IT READS IS OF BULK AT MOST 1048576: true; the input reads as it did. -/
def iacEscapesUptoRow : OpenClaim := { program := "ytbliangchllmhaa", sum := "c05e36083f240ab546c538f39cdbb10f4e49556d479904f22137c67f792ffdac", func := "greenscreen/greenscreenlaw05.IacEscapes", spec := "iacEscapes", apart := false, narrowed := true }
def IacEscapesUptoSaid : Prop := iacEscapesUptoRow.holds Try.pinned (OpenSpec.upto iacEscapesSpec)

/-- 'greenscreenlaw06.OptionPlays', WHERE WHAT IT READS IS OF BULK AT MOST 1048576: true; the input reads as it did. -/
def optionPlaysUptoRow : OpenClaim := { program := "ytbliangchllmhaa", sum := "c05e36083f240ab546c538f39cdbb10f4e49556d479904f22137c67f792ffdac", func := "greenscreen/greenscreenlaw06.OptionPlays", spec := "optionPlays", unfollowed := true, recurses := true, apart := false, narrowed := true }
def OptionPlaysUptoSaid : Prop := optionPlaysUptoRow.holds Try.pinned (OpenSpec.upto optionPlaysSpec)

/-- 'greenscreenlaw06.OptionRests', WHERE WHAT IT READS IS OF BULK AT MOST 1048576: true; the input reads as it did. -/
def optionRestsUptoRow : OpenClaim := { program := "ytbliangchllmhaa", sum := "c05e36083f240ab546c538f39cdbb10f4e49556d479904f22137c67f792ffdac", func := "greenscreen/greenscreenlaw06.OptionRests", spec := "optionRests", unfollowed := true, recurses := true, apart := false, narrowed := true }
def OptionRestsUptoSaid : Prop := optionRestsUptoRow.holds Try.pinned (OpenSpec.upto optionRestsSpec)

/-- 'greenscreenlaw06.OptionMay', WHERE WHAT IT READS IS OF BULK AT MOST 1048576: true; the input reads as it did. -/
def optionMayUptoRow : OpenClaim := { program := "ytbliangchllmhaa", sum := "c05e36083f240ab546c538f39cdbb10f4e49556d479904f22137c67f792ffdac", func := "greenscreen/greenscreenlaw06.OptionMay", spec := "optionMay", unfollowed := true, recurses := true, apart := false, narrowed := true }
def OptionMayUptoSaid : Prop := optionMayUptoRow.holds Try.pinned (OpenSpec.upto optionMaySpec)

/-- 'greenscreenlaw06.OptionTurns', WHERE WHAT IT READS IS OF BULK AT MOST 1048576: true; the input reads as it did. -/
def optionTurnsUptoRow : OpenClaim := { program := "ytbliangchllmhaa", sum := "c05e36083f240ab546c538f39cdbb10f4e49556d479904f22137c67f792ffdac", func := "greenscreen/greenscreenlaw06.OptionTurns", spec := "optionTurns", unfollowed := true, recurses := true, apart := false, narrowed := true }
def OptionTurnsUptoSaid : Prop := optionTurnsUptoRow.holds Try.pinned (OpenSpec.upto optionTurnsSpec)

end Rows
end Go.Proofs.Ytbliangchllmhaa
