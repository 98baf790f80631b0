/-
  No cell of these rows narrows 'for every input' (looked for: loops, veiled, ifaces, maps, wideKeys, modest, calm, conditions, laid).
  DERIVED. THE GIVEN ROWS OF THIS SEAT. 12 by the template 'for every input the law returns true; each argument reads behind the call as it read before'; 0 by the template 'total and deterministic' (their statements: YtfijcdidcnfadaaTotals.lean).
  GIVEN WITH THE SEED: the statements are not yours to turn. If you find one false, say at which input.
  Laid BY PROGRAM, IN A SANDBOX (cutbox-rows.mjs): the forced cells as the released guide's own fill.sh prints them over the translation 993e1bfb5097393c… (all of the seat's roots in one cut). By AI agents, Wed Nov 11 2026. No macro, syntax, notation, axiom, sorry.
-/
import Derived.Test.YtfijcdidcnfadaaChecked
import GoSem.Claim
import GoSem.ClaimJoined
import GoSem.ClaimMapViews
import Derived.JoinedTies
import Derived.KernelRfl
namespace Go.Proofs.Ytfijcdidcnfadaa
/- THE CELL 'sum', in the pinned program and in every row, IS THE sha256 OF THE DUMP (.gsa) THAT YtfijcdidcnfadaaProg.lean LOADS. Nothing in Lean hashes anything: it is a label: what it is worth is what the hold of that sum in a sandbox is worth. -/
noncomputable def Try.pinned : Pinned := { name := "ytfijcdidcnfadaa", sum := "993e1bfb5097393ca8767d3b0d55c13b457285319c263181fce20c4421dc7b3c", checked := Try.checked }
namespace Rows
def none {H : Type} : Left H := { results := [], args := [] }

/-- 'greenscreenlaw09.HeaderBytes': WHATEVER THE INPUT: true; the input reads as it did. -/
def headerBytesSpec : ChangeSpec := { name := "headerBytes", fn := fun _ => fun
  | [d1, d2, d3, d4] => { results := [.lit (.bool true)], args := [d1, d2, d3, d4] }
  | _ => none }
def headerBytesRow : OpenClaim := { program := "ytfijcdidcnfadaa", sum := "993e1bfb5097393ca8767d3b0d55c13b457285319c263181fce20c4421dc7b3c", func := "greenscreen/greenscreenlaw09.HeaderBytes", spec := "headerBytes", apart := false }
def HeaderBytesSaid : Prop := headerBytesRow.holds Try.pinned (OpenSpec.ofChange headerBytesSpec)

/-- ITS FALSE NEIGHBOUR: 'it returns false'. Refute it at one input. -/
def headerBytesWrong : ChangeSpec := { name := "headerBytes", fn := fun _ => fun
  | [d1, d2, d3, d4] => { results := [.lit (.bool false)], args := [d1, d2, d3, d4] }
  | _ => none }
def HeaderBytesWrongFalsely : Prop := headerBytesRow.holds Try.pinned (OpenSpec.ofChange headerBytesWrong)

/-- 'greenscreenlaw09.HeaderBack': WHATEVER THE INPUT: true; the input reads as it did. -/
def headerBackSpec : ChangeSpec := { name := "headerBack", fn := fun _ => fun
  | [d1, d2, d3] => { results := [.lit (.bool true)], args := [d1, d2, d3] }
  | _ => none }
def headerBackRow : OpenClaim := { program := "ytfijcdidcnfadaa", sum := "993e1bfb5097393ca8767d3b0d55c13b457285319c263181fce20c4421dc7b3c", func := "greenscreen/greenscreenlaw09.HeaderBack", spec := "headerBack", apart := false }
def HeaderBackSaid : Prop := headerBackRow.holds Try.pinned (OpenSpec.ofChange headerBackSpec)

/-- ITS FALSE NEIGHBOUR: 'it returns false'. Refute it at one input. -/
def headerBackWrong : ChangeSpec := { name := "headerBack", fn := fun _ => fun
  | [d1, d2, d3] => { results := [.lit (.bool false)], args := [d1, d2, d3] }
  | _ => none }
def HeaderBackWrongFalsely : Prop := headerBackRow.holds Try.pinned (OpenSpec.ofChange headerBackWrong)

/-- 'greenscreenlaw09.HeaderCounts': WHATEVER THE INPUT: true; the input reads as it did. -/
def headerCountsSpec : ChangeSpec := { name := "headerCounts", fn := fun _ => fun
  | [d1, d2] => { results := [.lit (.bool true)], args := [d1, d2] }
  | _ => none }
def headerCountsRow : OpenClaim := { program := "ytfijcdidcnfadaa", sum := "993e1bfb5097393ca8767d3b0d55c13b457285319c263181fce20c4421dc7b3c", func := "greenscreen/greenscreenlaw09.HeaderCounts", spec := "headerCounts", apart := false }
def HeaderCountsSaid : Prop := headerCountsRow.holds Try.pinned (OpenSpec.ofChange headerCountsSpec)

/-- ITS FALSE NEIGHBOUR: 'it returns false'. Refute it at one input. -/
def headerCountsWrong : ChangeSpec := { name := "headerCounts", fn := fun _ => fun
  | [d1, d2] => { results := [.lit (.bool false)], args := [d1, d2] }
  | _ => none }
def HeaderCountsWrongFalsely : Prop := headerCountsRow.holds Try.pinned (OpenSpec.ofChange headerCountsWrong)

/-- 'greenscreenlaw09.HeaderRounds': WHATEVER THE INPUT: true; the input reads as it did. -/
def headerRoundsSpec : ChangeSpec := { name := "headerRounds", fn := fun _ => fun
  | [d] => { results := [.lit (.bool true)], args := [d] }
  | _ => none }
def headerRoundsRow : OpenClaim := { program := "ytfijcdidcnfadaa", sum := "993e1bfb5097393ca8767d3b0d55c13b457285319c263181fce20c4421dc7b3c", func := "greenscreen/greenscreenlaw09.HeaderRounds", spec := "headerRounds", apart := false }
def HeaderRoundsSaid : Prop := headerRoundsRow.holds Try.pinned (OpenSpec.ofChange headerRoundsSpec)

/-- ITS FALSE NEIGHBOUR: 'it returns false'. Refute it at one input. -/
def headerRoundsWrong : ChangeSpec := { name := "headerRounds", fn := fun _ => fun
  | [d] => { results := [.lit (.bool false)], args := [d] }
  | _ => none }
def HeaderRoundsWrongFalsely : Prop := headerRoundsRow.holds Try.pinned (OpenSpec.ofChange headerRoundsWrong)

/-- 'greenscreenlaw10.RecordPlays': WHATEVER THE INPUT: true; the input reads as it did. -/
def recordPlaysSpec : ChangeSpec := { name := "recordPlays", fn := fun _ => fun
  | [d] => { results := [.lit (.bool true)], args := [d] }
  | _ => none }
def recordPlaysRow : OpenClaim := { program := "ytfijcdidcnfadaa", sum := "993e1bfb5097393ca8767d3b0d55c13b457285319c263181fce20c4421dc7b3c", func := "greenscreen/greenscreenlaw10.RecordPlays", spec := "recordPlays", apart := false }
def RecordPlaysSaid : Prop := recordPlaysRow.holds Try.pinned (OpenSpec.ofChange recordPlaysSpec)

/-- ITS FALSE NEIGHBOUR: 'it returns false'. Refute it at one input. -/
def recordPlaysWrong : ChangeSpec := { name := "recordPlays", fn := fun _ => fun
  | [d] => { results := [.lit (.bool false)], args := [d] }
  | _ => none }
def RecordPlaysWrongFalsely : Prop := recordPlaysRow.holds Try.pinned (OpenSpec.ofChange recordPlaysWrong)

/-- 'greenscreenlaw10.RecordSplits': WHATEVER THE INPUT: true; the input reads as it did. -/
def recordSplitsSpec : ChangeSpec := { name := "recordSplits", fn := fun _ => fun
  | [d1, d2] => { results := [.lit (.bool true)], args := [d1, d2] }
  | _ => none }
def recordSplitsRow : OpenClaim := { program := "ytfijcdidcnfadaa", sum := "993e1bfb5097393ca8767d3b0d55c13b457285319c263181fce20c4421dc7b3c", func := "greenscreen/greenscreenlaw10.RecordSplits", spec := "recordSplits", apart := false }
def RecordSplitsSaid : Prop := recordSplitsRow.holds Try.pinned (OpenSpec.ofChange recordSplitsSpec)

/-- ITS FALSE NEIGHBOUR: 'it returns false'. Refute it at one input. -/
def recordSplitsWrong : ChangeSpec := { name := "recordSplits", fn := fun _ => fun
  | [d1, d2] => { results := [.lit (.bool false)], args := [d1, d2] }
  | _ => none }
def RecordSplitsWrongFalsely : Prop := recordSplitsRow.holds Try.pinned (OpenSpec.ofChange recordSplitsWrong)

/-- 'greenscreenlaw10.RecordBack': WHATEVER THE INPUT: true; the input reads as it did. -/
def recordBackSpec : ChangeSpec := { name := "recordBack", fn := fun _ => fun
  | [d1, d2] => { results := [.lit (.bool true)], args := [d1, d2] }
  | _ => none }
def recordBackRow : OpenClaim := { program := "ytfijcdidcnfadaa", sum := "993e1bfb5097393ca8767d3b0d55c13b457285319c263181fce20c4421dc7b3c", func := "greenscreen/greenscreenlaw10.RecordBack", spec := "recordBack", apart := false }
def RecordBackSaid : Prop := recordBackRow.holds Try.pinned (OpenSpec.ofChange recordBackSpec)

/-- ITS FALSE NEIGHBOUR: 'it returns false'. Refute it at one input. -/
def recordBackWrong : ChangeSpec := { name := "recordBack", fn := fun _ => fun
  | [d1, d2] => { results := [.lit (.bool false)], args := [d1, d2] }
  | _ => none }
def RecordBackWrongFalsely : Prop := recordBackRow.holds Try.pinned (OpenSpec.ofChange recordBackWrong)

/-- 'greenscreenlaw10.RecordDrops': WHATEVER THE INPUT: true; the input reads as it did. -/
def recordDropsSpec : ChangeSpec := { name := "recordDrops", fn := fun _ => fun
  | [d1, d2] => { results := [.lit (.bool true)], args := [d1, d2] }
  | _ => none }
def recordDropsRow : OpenClaim := { program := "ytfijcdidcnfadaa", sum := "993e1bfb5097393ca8767d3b0d55c13b457285319c263181fce20c4421dc7b3c", func := "greenscreen/greenscreenlaw10.RecordDrops", spec := "recordDrops", apart := false }
def RecordDropsSaid : Prop := recordDropsRow.holds Try.pinned (OpenSpec.ofChange recordDropsSpec)

/-- ITS FALSE NEIGHBOUR: 'it returns false'. Refute it at one input. -/
def recordDropsWrong : ChangeSpec := { name := "recordDrops", fn := fun _ => fun
  | [d1, d2] => { results := [.lit (.bool false)], args := [d1, d2] }
  | _ => none }
def RecordDropsWrongFalsely : Prop := recordDropsRow.holds Try.pinned (OpenSpec.ofChange recordDropsWrong)

/-- 'greenscreentop.WholeFrames': WHATEVER THE INPUT: true; the input reads as it did. -/
def wholeFramesSpec : ChangeSpec := { name := "wholeFrames", fn := fun _ => fun
  | [d1, d2] => { results := [.lit (.bool true)], args := [d1, d2] }
  | _ => none }
def wholeFramesRow : OpenClaim := { program := "ytfijcdidcnfadaa", sum := "993e1bfb5097393ca8767d3b0d55c13b457285319c263181fce20c4421dc7b3c", func := "greenscreen/greenscreentop.WholeFrames", spec := "wholeFrames", apart := false }
def WholeFramesSaid : Prop := wholeFramesRow.holds Try.pinned (OpenSpec.ofChange wholeFramesSpec)

/-- ITS FALSE NEIGHBOUR: 'it returns false'. Refute it at one input. -/
def wholeFramesWrong : ChangeSpec := { name := "wholeFrames", fn := fun _ => fun
  | [d1, d2] => { results := [.lit (.bool false)], args := [d1, d2] }
  | _ => none }
def WholeFramesWrongFalsely : Prop := wholeFramesRow.holds Try.pinned (OpenSpec.ofChange wholeFramesWrong)

/-- 'greenscreentop.WholeTalks': WHATEVER THE INPUT: true; the input reads as it did. -/
def wholeTalksSpec : ChangeSpec := { name := "wholeTalks", fn := fun _ => fun
  | [d1, d2, d3, d4] => { results := [.lit (.bool true)], args := [d1, d2, d3, d4] }
  | _ => none }
def wholeTalksRow : OpenClaim := { program := "ytfijcdidcnfadaa", sum := "993e1bfb5097393ca8767d3b0d55c13b457285319c263181fce20c4421dc7b3c", func := "greenscreen/greenscreentop.WholeTalks", spec := "wholeTalks", unfollowed := true, recurses := true, apart := false }
def WholeTalksSaid : Prop := wholeTalksRow.holds Try.pinned (OpenSpec.ofChange wholeTalksSpec)

/-- ITS FALSE NEIGHBOUR: 'it returns false'. Refute it at one input. -/
def wholeTalksWrong : ChangeSpec := { name := "wholeTalks", fn := fun _ => fun
  | [d1, d2, d3, d4] => { results := [.lit (.bool false)], args := [d1, d2, d3, d4] }
  | _ => none }
def WholeTalksWrongFalsely : Prop := wholeTalksRow.holds Try.pinned (OpenSpec.ofChange wholeTalksWrong)

/-- 'greenscreenlaw05.IacWrites': WHATEVER THE INPUT: true; the input reads as it did. -/
def iacWritesSpec : ChangeSpec := { name := "iacWrites", fn := fun _ => fun
  | [d1, d2] => { results := [.lit (.bool true)], args := [d1, d2] }
  | _ => none }
def iacWritesRow : OpenClaim := { program := "ytfijcdidcnfadaa", sum := "993e1bfb5097393ca8767d3b0d55c13b457285319c263181fce20c4421dc7b3c", func := "greenscreen/greenscreenlaw05.IacWrites", spec := "iacWrites", apart := false }
def IacWritesSaid : Prop := iacWritesRow.holds Try.pinned (OpenSpec.ofChange iacWritesSpec)

/-- ITS FALSE NEIGHBOUR: 'it returns false'. Refute it at one input. -/
def iacWritesWrong : ChangeSpec := { name := "iacWrites", fn := fun _ => fun
  | [d1, d2] => { results := [.lit (.bool false)], args := [d1, d2] }
  | _ => none }
def IacWritesWrongFalsely : Prop := iacWritesRow.holds Try.pinned (OpenSpec.ofChange iacWritesWrong)

/-- 'greenscreenlaw07.TalkNames': WHATEVER THE INPUT: true; the input reads as it did. -/
def talkNamesSpec : ChangeSpec := { name := "talkNames", fn := fun _ => fun
  | [d1, d2] => { results := [.lit (.bool true)], args := [d1, d2] }
  | _ => none }
def talkNamesRow : OpenClaim := { program := "ytfijcdidcnfadaa", sum := "993e1bfb5097393ca8767d3b0d55c13b457285319c263181fce20c4421dc7b3c", func := "greenscreen/greenscreenlaw07.TalkNames", spec := "talkNames", apart := false }
def TalkNamesSaid : Prop := talkNamesRow.holds Try.pinned (OpenSpec.ofChange talkNamesSpec)

/-- ITS FALSE NEIGHBOUR: 'it returns false'. Refute it at one input. -/
def talkNamesWrong : ChangeSpec := { name := "talkNames", fn := fun _ => fun
  | [d1, d2] => { results := [.lit (.bool false)], args := [d1, d2] }
  | _ => none }
def TalkNamesWrongFalsely : Prop := talkNamesRow.holds Try.pinned (OpenSpec.ofChange talkNamesWrong)

/- THE SECOND FORM. 'bulk': how many values and letters a reading holds, each counted each time it is reached (what is shared counts as often as it is met; a slice's spare places count too). A statement '..UptoSaid' is the law's where the arguments, and the package variables that the reading takes, are together of bulk at most 1048576: NARROWER than '..Said'. Prove '..Said' where nothing that the law and all that it calls make is longer than what came in: it says more and counts as full. Else prove '..UptoSaid'. A law counts once. -/
mutual
def uptoBulk {H : Type} : DataW H → Nat
  | .lit (.string bytes) => bytes.length + 1
  | .lit _ => 1
  | .nil => 1
  | .ptr d => uptoBulk d + 1
  | .slice elems spare => uptoBulkAll elems + uptoBulkAll spare + 1
  | .agg parts => uptoBulkAll parts + 1
  | .iface _ d => uptoBulk d + 1
  | .map entries => uptoBulkEntries entries + 1
  | .held _ => 1
def uptoBulkAll {H : Type} : List (DataW H) → Nat
  | [] => 0
  | d :: r => uptoBulk d + uptoBulkAll r
def uptoBulkEntries {H : Type} : List (Lit × DataW H) → Nat
  | [] => 0
  | x :: r => uptoBulkEntry x + uptoBulkEntries r
def uptoBulkEntry {H : Type} : Lit × DataW H → Nat
  | (.string bytes, d) => bytes.length + uptoBulk d + 1
  | (_, d) => uptoBulk d + 1
 end
def uptoSmall : (H : Type) → List (DataW H) → Bool := fun _ ds => decide (uptoBulkAll ds ≤ 1048576)
def OpenSpec.upto (s : _root_.Go.ChangeSpec) : _root_.Go.OpenSpec := { _root_.Go.OpenSpec.ofChange s with cond := some uptoSmall }

/-- 'greenscreenlaw09.HeaderBytes', WHERE WHAT IT READS IS OF BULK AT MOST 1048576: true; the input reads as it did. -/
def headerBytesUptoRow : OpenClaim := { program := "ytfijcdidcnfadaa", sum := "993e1bfb5097393ca8767d3b0d55c13b457285319c263181fce20c4421dc7b3c", func := "greenscreen/greenscreenlaw09.HeaderBytes", spec := "headerBytes", apart := false, narrowed := true }
def HeaderBytesUptoSaid : Prop := headerBytesUptoRow.holds Try.pinned (OpenSpec.upto headerBytesSpec)

/-- 'greenscreenlaw09.HeaderBack', WHERE WHAT IT READS IS OF BULK AT MOST 1048576: true; the input reads as it did. -/
def headerBackUptoRow : OpenClaim := { program := "ytfijcdidcnfadaa", sum := "993e1bfb5097393ca8767d3b0d55c13b457285319c263181fce20c4421dc7b3c", func := "greenscreen/greenscreenlaw09.HeaderBack", spec := "headerBack", apart := false, narrowed := true }
def HeaderBackUptoSaid : Prop := headerBackUptoRow.holds Try.pinned (OpenSpec.upto headerBackSpec)

/-- 'greenscreenlaw09.HeaderCounts', WHERE WHAT IT READS IS OF BULK AT MOST 1048576: true; the input reads as it did. -/
def headerCountsUptoRow : OpenClaim := { program := "ytfijcdidcnfadaa", sum := "993e1bfb5097393ca8767d3b0d55c13b457285319c263181fce20c4421dc7b3c", func := "greenscreen/greenscreenlaw09.HeaderCounts", spec := "headerCounts", apart := false, narrowed := true }
def HeaderCountsUptoSaid : Prop := headerCountsUptoRow.holds Try.pinned (OpenSpec.upto headerCountsSpec)

/-- 'greenscreenlaw09.HeaderRounds', WHERE WHAT IT READS IS OF BULK AT MOST 1048576: true; the input reads as it did. -/
def headerRoundsUptoRow : OpenClaim := { program := "ytfijcdidcnfadaa", sum := "993e1bfb5097393ca8767d3b0d55c13b457285319c263181fce20c4421dc7b3c", func := "greenscreen/greenscreenlaw09.HeaderRounds", spec := "headerRounds", apart := false, narrowed := true }
def HeaderRoundsUptoSaid : Prop := headerRoundsUptoRow.holds Try.pinned (OpenSpec.upto headerRoundsSpec)

/-- 'greenscreenlaw10.RecordPlays', WHERE WHAT IT READS IS OF BULK AT MOST 1048576: true; the input reads as it did. -/
def recordPlaysUptoRow : OpenClaim := { program := "ytfijcdidcnfadaa", sum := "993e1bfb5097393ca8767d3b0d55c13b457285319c263181fce20c4421dc7b3c", func := "greenscreen/greenscreenlaw10.RecordPlays", spec := "recordPlays", apart := false, narrowed := true }
def RecordPlaysUptoSaid : Prop := recordPlaysUptoRow.holds Try.pinned (OpenSpec.upto recordPlaysSpec)

/-- 'greenscreenlaw10.RecordSplits', WHERE WHAT IT READS IS OF BULK AT MOST 1048576: true; the input reads as it did. -/
def recordSplitsUptoRow : OpenClaim := { program := "ytfijcdidcnfadaa", sum := "993e1bfb5097393ca8767d3b0d55c13b457285319c263181fce20c4421dc7b3c", func := "greenscreen/greenscreenlaw10.RecordSplits", spec := "recordSplits", apart := false, narrowed := true }
def RecordSplitsUptoSaid : Prop := recordSplitsUptoRow.holds Try.pinned (OpenSpec.upto recordSplitsSpec)

/-- 'greenscreenlaw10.RecordBack', WHERE WHAT IT READS IS OF BULK AT MOST 1048576: true; the input reads as it did. -/
def recordBackUptoRow : OpenClaim := { program := "ytfijcdidcnfadaa", sum := "993e1bfb5097393ca8767d3b0d55c13b457285319c263181fce20c4421dc7b3c", func := "greenscreen/greenscreenlaw10.RecordBack", spec := "recordBack", apart := false, narrowed := true }
def RecordBackUptoSaid : Prop := recordBackUptoRow.holds Try.pinned (OpenSpec.upto recordBackSpec)

/-- 'greenscreenlaw10.RecordDrops', WHERE WHAT IT READS IS OF BULK AT MOST 1048576: true; the input reads as it did. -/
def recordDropsUptoRow : OpenClaim := { program := "ytfijcdidcnfadaa", sum := "993e1bfb5097393ca8767d3b0d55c13b457285319c263181fce20c4421dc7b3c", func := "greenscreen/greenscreenlaw10.RecordDrops", spec := "recordDrops", apart := false, narrowed := true }
def RecordDropsUptoSaid : Prop := recordDropsUptoRow.holds Try.pinned (OpenSpec.upto recordDropsSpec)

/-- 'greenscreentop.WholeFrames', WHERE WHAT IT READS IS OF BULK AT MOST 1048576: true; the input reads as it did. -/
def wholeFramesUptoRow : OpenClaim := { program := "ytfijcdidcnfadaa", sum := "993e1bfb5097393ca8767d3b0d55c13b457285319c263181fce20c4421dc7b3c", func := "greenscreen/greenscreentop.WholeFrames", spec := "wholeFrames", apart := false, narrowed := true }
def WholeFramesUptoSaid : Prop := wholeFramesUptoRow.holds Try.pinned (OpenSpec.upto wholeFramesSpec)

/-- 'greenscreentop.WholeTalks', WHERE WHAT IT READS IS OF BULK AT MOST 1048576: true; the input reads as it did. -/
def wholeTalksUptoRow : OpenClaim := { program := "ytfijcdidcnfadaa", sum := "993e1bfb5097393ca8767d3b0d55c13b457285319c263181fce20c4421dc7b3c", func := "greenscreen/greenscreentop.WholeTalks", spec := "wholeTalks", unfollowed := true, recurses := true, apart := false, narrowed := true }
def WholeTalksUptoSaid : Prop := wholeTalksUptoRow.holds Try.pinned (OpenSpec.upto wholeTalksSpec)

/-- 'greenscreenlaw05.IacWrites', WHERE WHAT IT READS IS OF BULK AT MOST 1048576: true; the input reads as it did. -/
def iacWritesUptoRow : OpenClaim := { program := "ytfijcdidcnfadaa", sum := "993e1bfb5097393ca8767d3b0d55c13b457285319c263181fce20c4421dc7b3c", func := "greenscreen/greenscreenlaw05.IacWrites", spec := "iacWrites", apart := false, narrowed := true }
def IacWritesUptoSaid : Prop := iacWritesUptoRow.holds Try.pinned (OpenSpec.upto iacWritesSpec)

/-- 'greenscreenlaw07.TalkNames', WHERE WHAT IT READS IS OF BULK AT MOST 1048576: true; the input reads as it did. -/
def talkNamesUptoRow : OpenClaim := { program := "ytfijcdidcnfadaa", sum := "993e1bfb5097393ca8767d3b0d55c13b457285319c263181fce20c4421dc7b3c", func := "greenscreen/greenscreenlaw07.TalkNames", spec := "talkNames", apart := false, narrowed := true }
def TalkNamesUptoSaid : Prop := talkNamesUptoRow.holds Try.pinned (OpenSpec.upto talkNamesSpec)

end Rows
end Go.Proofs.Ytfijcdidcnfadaa
