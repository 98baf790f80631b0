/-
  No cell of these rows narrows 'for every input' (looked for: loops, veiled, ifaces, maps, wideKeys, modest, calm, conditions, laid).
  DERIVED. THE GIVEN ROWS OF THIS SEAT. 9 by the template 'for every input the law returns true; each argument reads behind the call as it read before'; 0 by the template 'total and deterministic' (their statements: YtllfieefmnjplaaTotals.lean).
  GIVEN WITH THE SEED: the statements are not yours to turn. If you find one false, say at which input.
  Laid BY PROGRAM, IN A SANDBOX (cutbox-rows.mjs): the forced cells as the released guide's own fill.sh prints them over the translation addb79232b9aa49f… (all of the seat's roots in one cut). By AI agents, Wed Nov 11 2026. No macro, syntax, notation, axiom, sorry.
-/
import Derived.Test.YtllfieefmnjplaaChecked
import GoSem.Claim
import GoSem.ClaimJoined
import GoSem.ClaimMapViews
import Derived.JoinedTies
import Derived.KernelRfl
namespace Go.Proofs.Ytllfieefmnjplaa
/- THE CELL 'sum', in the pinned program and in every row, IS THE sha256 OF THE DUMP (.gsa) THAT YtllfieefmnjplaaProg.lean LOADS. Nothing in Lean hashes anything: it is a label: what it is worth is what the hold of that sum in a sandbox is worth. -/
noncomputable def Try.pinned : Pinned := { name := "ytllfieefmnjplaa", sum := "addb79232b9aa49f582f08d8bd648a092d1d264f4860c7ea82c16fbd95c4b687", checked := Try.checked }
namespace Rows
def none {H : Type} : Left H := { results := [], args := [] }

/-- 'greenscreenlaw11.AttrBytes': WHATEVER THE INPUT: true; the input reads as it did. -/
def attrBytesSpec : ChangeSpec := { name := "attrBytes", fn := fun _ => fun
  | [d1, d2, d3] => { results := [.lit (.bool true)], args := [d1, d2, d3] }
  | _ => none }
def attrBytesRow : OpenClaim := { program := "ytllfieefmnjplaa", sum := "addb79232b9aa49f582f08d8bd648a092d1d264f4860c7ea82c16fbd95c4b687", func := "greenscreen/greenscreenlaw11.AttrBytes", spec := "attrBytes", apart := false }
def AttrBytesSaid : Prop := attrBytesRow.holds Try.pinned (OpenSpec.ofChange attrBytesSpec)

/-- ITS FALSE NEIGHBOUR: 'it returns false'. Refute it at one input. -/
def attrBytesWrong : ChangeSpec := { name := "attrBytes", fn := fun _ => fun
  | [d1, d2, d3] => { results := [.lit (.bool false)], args := [d1, d2, d3] }
  | _ => none }
def AttrBytesWrongFalsely : Prop := attrBytesRow.holds Try.pinned (OpenSpec.ofChange attrBytesWrong)

/-- 'greenscreenlaw11.AttrPairs': WHATEVER THE INPUT: true; the input reads as it did. -/
def attrPairsSpec : ChangeSpec := { name := "attrPairs", fn := fun _ => fun
  | [d1, d2, d3] => { results := [.lit (.bool true)], args := [d1, d2, d3] }
  | _ => none }
def attrPairsRow : OpenClaim := { program := "ytllfieefmnjplaa", sum := "addb79232b9aa49f582f08d8bd648a092d1d264f4860c7ea82c16fbd95c4b687", func := "greenscreen/greenscreenlaw11.AttrPairs", spec := "attrPairs", apart := false }
def AttrPairsSaid : Prop := attrPairsRow.holds Try.pinned (OpenSpec.ofChange attrPairsSpec)

/-- ITS FALSE NEIGHBOUR: 'it returns false'. Refute it at one input. -/
def attrPairsWrong : ChangeSpec := { name := "attrPairs", fn := fun _ => fun
  | [d1, d2, d3] => { results := [.lit (.bool false)], args := [d1, d2, d3] }
  | _ => none }
def AttrPairsWrongFalsely : Prop := attrPairsRow.holds Try.pinned (OpenSpec.ofChange attrPairsWrong)

/-- 'greenscreenlaw11.AttrTexts': WHATEVER THE INPUT: true; the input reads as it did. -/
def attrTextsSpec : ChangeSpec := { name := "attrTexts", fn := fun _ => fun
  | [d1, d2, d3, d4] => { results := [.lit (.bool true)], args := [d1, d2, d3, d4] }
  | _ => none }
def attrTextsRow : OpenClaim := { program := "ytllfieefmnjplaa", sum := "addb79232b9aa49f582f08d8bd648a092d1d264f4860c7ea82c16fbd95c4b687", func := "greenscreen/greenscreenlaw11.AttrTexts", spec := "attrTexts", apart := false }
def AttrTextsSaid : Prop := attrTextsRow.holds Try.pinned (OpenSpec.ofChange attrTextsSpec)

/-- ITS FALSE NEIGHBOUR: 'it returns false'. Refute it at one input. -/
def attrTextsWrong : ChangeSpec := { name := "attrTexts", fn := fun _ => fun
  | [d1, d2, d3, d4] => { results := [.lit (.bool false)], args := [d1, d2, d3, d4] }
  | _ => none }
def AttrTextsWrongFalsely : Prop := attrTextsRow.holds Try.pinned (OpenSpec.ofChange attrTextsWrong)

/-- 'greenscreenlaw11.AttrTurns': WHATEVER THE INPUT: true; the input reads as it did. -/
def attrTurnsSpec : ChangeSpec := { name := "attrTurns", fn := fun _ => fun
  | [d1, d2, d3, d4] => { results := [.lit (.bool true)], args := [d1, d2, d3, d4] }
  | _ => none }
def attrTurnsRow : OpenClaim := { program := "ytllfieefmnjplaa", sum := "addb79232b9aa49f582f08d8bd648a092d1d264f4860c7ea82c16fbd95c4b687", func := "greenscreen/greenscreenlaw11.AttrTurns", spec := "attrTurns", apart := false }
def AttrTurnsSaid : Prop := attrTurnsRow.holds Try.pinned (OpenSpec.ofChange attrTurnsSpec)

/-- ITS FALSE NEIGHBOUR: 'it returns false'. Refute it at one input. -/
def attrTurnsWrong : ChangeSpec := { name := "attrTurns", fn := fun _ => fun
  | [d1, d2, d3, d4] => { results := [.lit (.bool false)], args := [d1, d2, d3, d4] }
  | _ => none }
def AttrTurnsWrongFalsely : Prop := attrTurnsRow.holds Try.pinned (OpenSpec.ofChange attrTurnsWrong)

/-- 'greenscreenlaw10.RecordSplits': WHATEVER THE INPUT: true; the input reads as it did. -/
def recordSplitsSpec : ChangeSpec := { name := "recordSplits", fn := fun _ => fun
  | [d1, d2] => { results := [.lit (.bool true)], args := [d1, d2] }
  | _ => none }
def recordSplitsRow : OpenClaim := { program := "ytllfieefmnjplaa", sum := "addb79232b9aa49f582f08d8bd648a092d1d264f4860c7ea82c16fbd95c4b687", func := "greenscreen/greenscreenlaw10.RecordSplits", spec := "recordSplits", apart := false }
def RecordSplitsSaid : Prop := recordSplitsRow.holds Try.pinned (OpenSpec.ofChange recordSplitsSpec)

/-- ITS FALSE NEIGHBOUR: 'it returns false'. Refute it at one input. -/
def recordSplitsWrong : ChangeSpec := { name := "recordSplits", fn := fun _ => fun
  | [d1, d2] => { results := [.lit (.bool false)], args := [d1, d2] }
  | _ => none }
def RecordSplitsWrongFalsely : Prop := recordSplitsRow.holds Try.pinned (OpenSpec.ofChange recordSplitsWrong)

/-- 'greenscreenlaw05.IacWrites': WHATEVER THE INPUT: true; the input reads as it did. -/
def iacWritesSpec : ChangeSpec := { name := "iacWrites", fn := fun _ => fun
  | [d1, d2] => { results := [.lit (.bool true)], args := [d1, d2] }
  | _ => none }
def iacWritesRow : OpenClaim := { program := "ytllfieefmnjplaa", sum := "addb79232b9aa49f582f08d8bd648a092d1d264f4860c7ea82c16fbd95c4b687", func := "greenscreen/greenscreenlaw05.IacWrites", spec := "iacWrites", apart := false }
def IacWritesSaid : Prop := iacWritesRow.holds Try.pinned (OpenSpec.ofChange iacWritesSpec)

/-- ITS FALSE NEIGHBOUR: 'it returns false'. Refute it at one input. -/
def iacWritesWrong : ChangeSpec := { name := "iacWrites", fn := fun _ => fun
  | [d1, d2] => { results := [.lit (.bool false)], args := [d1, d2] }
  | _ => none }
def IacWritesWrongFalsely : Prop := iacWritesRow.holds Try.pinned (OpenSpec.ofChange iacWritesWrong)

/-- 'greenscreenlaw07.TalkNames': WHATEVER THE INPUT: true; the input reads as it did. -/
def talkNamesSpec : ChangeSpec := { name := "talkNames", fn := fun _ => fun
  | [d1, d2] => { results := [.lit (.bool true)], args := [d1, d2] }
  | _ => none }
def talkNamesRow : OpenClaim := { program := "ytllfieefmnjplaa", sum := "addb79232b9aa49f582f08d8bd648a092d1d264f4860c7ea82c16fbd95c4b687", func := "greenscreen/greenscreenlaw07.TalkNames", spec := "talkNames", apart := false }
def TalkNamesSaid : Prop := talkNamesRow.holds Try.pinned (OpenSpec.ofChange talkNamesSpec)

/-- ITS FALSE NEIGHBOUR: 'it returns false'. Refute it at one input. -/
def talkNamesWrong : ChangeSpec := { name := "talkNames", fn := fun _ => fun
  | [d1, d2] => { results := [.lit (.bool false)], args := [d1, d2] }
  | _ => none }
def TalkNamesWrongFalsely : Prop := talkNamesRow.holds Try.pinned (OpenSpec.ofChange talkNamesWrong)

/-- 'greenscreentop.WholeFrames': WHATEVER THE INPUT: true; the input reads as it did. -/
def wholeFramesSpec : ChangeSpec := { name := "wholeFrames", fn := fun _ => fun
  | [d1, d2] => { results := [.lit (.bool true)], args := [d1, d2] }
  | _ => none }
def wholeFramesRow : OpenClaim := { program := "ytllfieefmnjplaa", sum := "addb79232b9aa49f582f08d8bd648a092d1d264f4860c7ea82c16fbd95c4b687", func := "greenscreen/greenscreentop.WholeFrames", spec := "wholeFrames", apart := false }
def WholeFramesSaid : Prop := wholeFramesRow.holds Try.pinned (OpenSpec.ofChange wholeFramesSpec)

/-- ITS FALSE NEIGHBOUR: 'it returns false'. Refute it at one input. -/
def wholeFramesWrong : ChangeSpec := { name := "wholeFrames", fn := fun _ => fun
  | [d1, d2] => { results := [.lit (.bool false)], args := [d1, d2] }
  | _ => none }
def WholeFramesWrongFalsely : Prop := wholeFramesRow.holds Try.pinned (OpenSpec.ofChange wholeFramesWrong)

/-- 'greenscreenlaw06.OptionRests': WHATEVER THE INPUT: true; the input reads as it did. -/
def optionRestsSpec : ChangeSpec := { name := "optionRests", fn := fun _ => fun
  | [d1, d2, d3, d4, d5] => { results := [.lit (.bool true)], args := [d1, d2, d3, d4, d5] }
  | _ => none }
def optionRestsRow : OpenClaim := { program := "ytllfieefmnjplaa", sum := "addb79232b9aa49f582f08d8bd648a092d1d264f4860c7ea82c16fbd95c4b687", func := "greenscreen/greenscreenlaw06.OptionRests", spec := "optionRests", unfollowed := true, recurses := true, apart := false }
def OptionRestsSaid : Prop := optionRestsRow.holds Try.pinned (OpenSpec.ofChange optionRestsSpec)

/-- ITS FALSE NEIGHBOUR: 'it returns false'. Refute it at one input. -/
def optionRestsWrong : ChangeSpec := { name := "optionRests", fn := fun _ => fun
  | [d1, d2, d3, d4, d5] => { results := [.lit (.bool false)], args := [d1, d2, d3, d4, d5] }
  | _ => none }
def OptionRestsWrongFalsely : Prop := optionRestsRow.holds Try.pinned (OpenSpec.ofChange optionRestsWrong)

/- THE SECOND FORM. 'bulk': how many values and letters a reading holds, each counted each time it is reached (what is shared counts as often as it is met; a slice's spare places count too). A statement '..UptoSaid' is the law's where the arguments, and the package variables that the reading takes, are together of bulk at most 1048576: NARROWER than '..Said'. Prove '..Said' where nothing that the law and all that it calls make is longer than what came in: it says more and counts as full. Else prove '..UptoSaid'. A law counts once. -/
mutual
def uptoBulk {H : Type} : DataW H → Nat
  | .lit (.string bytes) => bytes.length + 1
  | .lit _ => 1
  | .nil => 1
  | .ptr d => uptoBulk d + 1
  | .slice elems spare => uptoBulkAll elems + uptoBulkAll spare + 1
  | .agg parts => uptoBulkAll parts + 1
  | .iface _ d => uptoBulk d + 1
  | .map entries => uptoBulkEntries entries + 1
  | .held _ => 1
def uptoBulkAll {H : Type} : List (DataW H) → Nat
  | [] => 0
  | d :: r => uptoBulk d + uptoBulkAll r
def uptoBulkEntries {H : Type} : List (Lit × DataW H) → Nat
  | [] => 0
  | x :: r => uptoBulkEntry x + uptoBulkEntries r
def uptoBulkEntry {H : Type} : Lit × DataW H → Nat
  | (.string bytes, d) => bytes.length + uptoBulk d + 1
  | (_, d) => uptoBulk d + 1
 end
def uptoSmall : (H : Type) → List (DataW H) → Bool := fun _ ds => decide (uptoBulkAll ds ≤ 1048576)
def OpenSpec.upto (s : _root_.Go.ChangeSpec) : _root_.Go.OpenSpec := { _root_.Go.OpenSpec.ofChange s with cond := some uptoSmall }

/-- 'greenscreenlaw11.AttrBytes', WHERE WHAT IT READS IS OF BULK AT MOST 1048576: true; the input reads as it did. -/
def attrBytesUptoRow : OpenClaim := { program := "ytllfieefmnjplaa", sum := "addb79232b9aa49f582f08d8bd648a092d1d264f4860c7ea82c16fbd95c4b687", func := "greenscreen/greenscreenlaw11.AttrBytes", spec := "attrBytes", apart := false, narrowed := true }
def AttrBytesUptoSaid : Prop := attrBytesUptoRow.holds Try.pinned (OpenSpec.upto attrBytesSpec)

/-- 'greenscreenlaw11.AttrPairs', WHERE WHAT IT READS IS OF BULK AT MOST 1048576: true; the input reads as it did. -/
def attrPairsUptoRow : OpenClaim := { program := "ytllfieefmnjplaa", sum := "addb79232b9aa49f582f08d8bd648a092d1d264f4860c7ea82c16fbd95c4b687", func := "greenscreen/greenscreenlaw11.AttrPairs", spec := "attrPairs", apart := false, narrowed := true }
def AttrPairsUptoSaid : Prop := attrPairsUptoRow.holds Try.pinned (OpenSpec.upto attrPairsSpec)

/-- 'greenscreenlaw11.AttrTexts', WHERE WHAT IT READS IS OF BULK AT MOST 1048576: true; the input reads as it did. -/
def attrTextsUptoRow : OpenClaim := { program := "ytllfieefmnjplaa", sum := "addb79232b9aa49f582f08d8bd648a092d1d264f4860c7ea82c16fbd95c4b687", func := "greenscreen/greenscreenlaw11.AttrTexts", spec := "attrTexts", apart := false, narrowed := true }
def AttrTextsUptoSaid : Prop := attrTextsUptoRow.holds Try.pinned (OpenSpec.upto attrTextsSpec)

/-- 'greenscreenlaw11.AttrTurns', WHERE WHAT IT READS IS OF BULK AT MOST 1048576: true; the input reads as it did. -/
def attrTurnsUptoRow : OpenClaim := { program := "ytllfieefmnjplaa", sum := "addb79232b9aa49f582f08d8bd648a092d1d264f4860c7ea82c16fbd95c4b687", func := "greenscreen/greenscreenlaw11.AttrTurns", spec := "attrTurns", apart := false, narrowed := true }
def AttrTurnsUptoSaid : Prop := attrTurnsUptoRow.holds Try.pinned (OpenSpec.upto attrTurnsSpec)

/-- 'greenscreenlaw10.RecordSplits', WHERE WHAT IT READS IS OF BULK AT MOST 1048576: true; the input reads as it did. -/
def recordSplitsUptoRow : OpenClaim := { program := "ytllfieefmnjplaa", sum := "addb79232b9aa49f582f08d8bd648a092d1d264f4860c7ea82c16fbd95c4b687", func := "greenscreen/greenscreenlaw10.RecordSplits", spec := "recordSplits", apart := false, narrowed := true }
def RecordSplitsUptoSaid : Prop := recordSplitsUptoRow.holds Try.pinned (OpenSpec.upto recordSplitsSpec)

/-- 'greenscreenlaw05.IacWrites', WHERE WHAT IT READS IS OF BULK AT MOST 1048576: true; the input reads as it did. -/
def iacWritesUptoRow : OpenClaim := { program := "ytllfieefmnjplaa", sum := "addb79232b9aa49f582f08d8bd648a092d1d264f4860c7ea82c16fbd95c4b687", func := "greenscreen/greenscreenlaw05.IacWrites", spec := "iacWrites", apart := false, narrowed := true }
def IacWritesUptoSaid : Prop := iacWritesUptoRow.holds Try.pinned (OpenSpec.upto iacWritesSpec)

/-- 'greenscreenlaw07.TalkNames', WHERE WHAT IT READS IS OF BULK AT MOST 1048576: true; the input reads as it did. -/
def talkNamesUptoRow : OpenClaim := { program := "ytllfieefmnjplaa", sum := "addb79232b9aa49f582f08d8bd648a092d1d264f4860c7ea82c16fbd95c4b687", func := "greenscreen/greenscreenlaw07.TalkNames", spec := "talkNames", apart := false, narrowed := true }
def TalkNamesUptoSaid : Prop := talkNamesUptoRow.holds Try.pinned (OpenSpec.upto talkNamesSpec)

/-- 'greenscreentop.WholeFrames', WHERE WHAT IT READS IS OF BULK AT MOST 1048576: true; the input reads as it did. -/
def wholeFramesUptoRow : OpenClaim := { program := "ytllfieefmnjplaa", sum := "addb79232b9aa49f582f08d8bd648a092d1d264f4860c7ea82c16fbd95c4b687", func := "greenscreen/greenscreentop.WholeFrames", spec := "wholeFrames", apart := false, narrowed := true }
def WholeFramesUptoSaid : Prop := wholeFramesUptoRow.holds Try.pinned (OpenSpec.upto wholeFramesSpec)

/-- 'greenscreenlaw06.OptionRests', WHERE WHAT IT READS IS OF BULK AT MOST 1048576: true; the input reads as it did. -/
def optionRestsUptoRow : OpenClaim := { program := "ytllfieefmnjplaa", sum := "addb79232b9aa49f582f08d8bd648a092d1d264f4860c7ea82c16fbd95c4b687", func := "greenscreen/greenscreenlaw06.OptionRests", spec := "optionRests", unfollowed := true, recurses := true, apart := false, narrowed := true }
def OptionRestsUptoSaid : Prop := optionRestsUptoRow.holds Try.pinned (OpenSpec.upto optionRestsSpec)

end Rows
end Go.Proofs.Ytllfieefmnjplaa
