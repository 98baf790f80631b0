/-
  No cell of these rows narrows 'for every input' (looked for: loops, veiled, ifaces, maps, wideKeys, modest, calm, conditions, laid).
  DERIVED. THE GIVEN ROWS OF THIS SEAT. 12 by the template 'for every input the law returns true; each argument reads behind the call as it read before'; 0 by the template 'total and deterministic' (their statements: YtgjdfhfaikdaaaaTotals.lean).
  GIVEN WITH THE SEED: the statements are not yours to turn. If you find one false, say at which input.
  Laid BY PROGRAM, IN A SANDBOX (cutbox-rows.mjs): the forced cells as the released guide's own fill.sh prints them over the translation 1e4a848e2a1ef0f8… (all of the seat's roots in one cut). By AI agents, Wed Nov 11 2026. No macro, syntax, notation, axiom, sorry.
-/
import Derived.Test.YtgjdfhfaikdaaaaChecked
import GoSem.Claim
import GoSem.ClaimJoined
import GoSem.ClaimMapViews
import Derived.JoinedTies
import Derived.KernelRfl
namespace Go.Proofs.Ytgjdfhfaikdaaaa
/- THE CELL 'sum', in the pinned program and in every row, IS THE sha256 OF THE DUMP (.gsa) THAT YtgjdfhfaikdaaaaProg.lean LOADS. Nothing in Lean hashes anything: it is a label: what it is worth is what the hold of that sum in a sandbox is worth. -/
noncomputable def Try.pinned : Pinned := { name := "ytgjdfhfaikdaaaa", sum := "1e4a848e2a1ef0f843437c6b796290ad37a9328641f621da1be82e2106ae975d", checked := Try.checked }
namespace Rows
def none {H : Type} : Left H := { results := [], args := [] }

/-- 'greenscreenlaw05.IacCuts': WHATEVER THE INPUT: true; the input reads as it did. -/
def iacCutsSpec : ChangeSpec := { name := "iacCuts", fn := fun _ => fun
  | [d1, d2] => { results := [.lit (.bool true)], args := [d1, d2] }
  | _ => none }
def iacCutsRow : OpenClaim := { program := "ytgjdfhfaikdaaaa", sum := "1e4a848e2a1ef0f843437c6b796290ad37a9328641f621da1be82e2106ae975d", func := "greenscreen/greenscreenlaw05.IacCuts", spec := "iacCuts", apart := false }
def IacCutsSaid : Prop := iacCutsRow.holds Try.pinned (OpenSpec.ofChange iacCutsSpec)

/-- ITS FALSE NEIGHBOUR: 'it returns false'. Refute it at one input. -/
def iacCutsWrong : ChangeSpec := { name := "iacCuts", fn := fun _ => fun
  | [d1, d2] => { results := [.lit (.bool false)], args := [d1, d2] }
  | _ => none }
def IacCutsWrongFalsely : Prop := iacCutsRow.holds Try.pinned (OpenSpec.ofChange iacCutsWrong)

/-- 'greenscreenlaw05.IacWrites': WHATEVER THE INPUT: true; the input reads as it did. -/
def iacWritesSpec : ChangeSpec := { name := "iacWrites", fn := fun _ => fun
  | [d1, d2] => { results := [.lit (.bool true)], args := [d1, d2] }
  | _ => none }
def iacWritesRow : OpenClaim := { program := "ytgjdfhfaikdaaaa", sum := "1e4a848e2a1ef0f843437c6b796290ad37a9328641f621da1be82e2106ae975d", func := "greenscreen/greenscreenlaw05.IacWrites", spec := "iacWrites", apart := false }
def IacWritesSaid : Prop := iacWritesRow.holds Try.pinned (OpenSpec.ofChange iacWritesSpec)

/-- ITS FALSE NEIGHBOUR: 'it returns false'. Refute it at one input. -/
def iacWritesWrong : ChangeSpec := { name := "iacWrites", fn := fun _ => fun
  | [d1, d2] => { results := [.lit (.bool false)], args := [d1, d2] }
  | _ => none }
def IacWritesWrongFalsely : Prop := iacWritesRow.holds Try.pinned (OpenSpec.ofChange iacWritesWrong)

/-- 'greenscreenlaw05.IacBack': WHATEVER THE INPUT: true; the input reads as it did. -/
def iacBackSpec : ChangeSpec := { name := "iacBack", fn := fun _ => fun
  | [d1, d2] => { results := [.lit (.bool true)], args := [d1, d2] }
  | _ => none }
def iacBackRow : OpenClaim := { program := "ytgjdfhfaikdaaaa", sum := "1e4a848e2a1ef0f843437c6b796290ad37a9328641f621da1be82e2106ae975d", func := "greenscreen/greenscreenlaw05.IacBack", spec := "iacBack", apart := false }
def IacBackSaid : Prop := iacBackRow.holds Try.pinned (OpenSpec.ofChange iacBackSpec)

/-- ITS FALSE NEIGHBOUR: 'it returns false'. Refute it at one input. -/
def iacBackWrong : ChangeSpec := { name := "iacBack", fn := fun _ => fun
  | [d1, d2] => { results := [.lit (.bool false)], args := [d1, d2] }
  | _ => none }
def IacBackWrongFalsely : Prop := iacBackRow.holds Try.pinned (OpenSpec.ofChange iacBackWrong)

/-- 'greenscreenlaw05.IacEscapes': WHATEVER THE INPUT: true; the input reads as it did. -/
def iacEscapesSpec : ChangeSpec := { name := "iacEscapes", fn := fun _ => fun
  | [d1, d2] => { results := [.lit (.bool true)], args := [d1, d2] }
  | _ => none }
def iacEscapesRow : OpenClaim := { program := "ytgjdfhfaikdaaaa", sum := "1e4a848e2a1ef0f843437c6b796290ad37a9328641f621da1be82e2106ae975d", func := "greenscreen/greenscreenlaw05.IacEscapes", spec := "iacEscapes", apart := false }
def IacEscapesSaid : Prop := iacEscapesRow.holds Try.pinned (OpenSpec.ofChange iacEscapesSpec)

/-- ITS FALSE NEIGHBOUR: 'it returns false'. Refute it at one input. -/
def iacEscapesWrong : ChangeSpec := { name := "iacEscapes", fn := fun _ => fun
  | [d1, d2] => { results := [.lit (.bool false)], args := [d1, d2] }
  | _ => none }
def IacEscapesWrongFalsely : Prop := iacEscapesRow.holds Try.pinned (OpenSpec.ofChange iacEscapesWrong)

/-- 'greenscreenlaw06.OptionRests': WHATEVER THE INPUT: true; the input reads as it did. -/
def optionRestsSpec : ChangeSpec := { name := "optionRests", fn := fun _ => fun
  | [d1, d2, d3, d4, d5] => { results := [.lit (.bool true)], args := [d1, d2, d3, d4, d5] }
  | _ => none }
def optionRestsRow : OpenClaim := { program := "ytgjdfhfaikdaaaa", sum := "1e4a848e2a1ef0f843437c6b796290ad37a9328641f621da1be82e2106ae975d", func := "greenscreen/greenscreenlaw06.OptionRests", spec := "optionRests", unfollowed := true, recurses := true, apart := false }
def OptionRestsSaid : Prop := optionRestsRow.holds Try.pinned (OpenSpec.ofChange optionRestsSpec)

/-- ITS FALSE NEIGHBOUR: 'it returns false'. Refute it at one input. -/
def optionRestsWrong : ChangeSpec := { name := "optionRests", fn := fun _ => fun
  | [d1, d2, d3, d4, d5] => { results := [.lit (.bool false)], args := [d1, d2, d3, d4, d5] }
  | _ => none }
def OptionRestsWrongFalsely : Prop := optionRestsRow.holds Try.pinned (OpenSpec.ofChange optionRestsWrong)

/-- 'greenscreenlaw07.TalkPlays': WHATEVER THE INPUT: true; the input reads as it did. -/
def talkPlaysSpec : ChangeSpec := { name := "talkPlays", fn := fun _ => fun
  | [d1, d2, d3, d4] => { results := [.lit (.bool true)], args := [d1, d2, d3, d4] }
  | _ => none }
def talkPlaysRow : OpenClaim := { program := "ytgjdfhfaikdaaaa", sum := "1e4a848e2a1ef0f843437c6b796290ad37a9328641f621da1be82e2106ae975d", func := "greenscreen/greenscreenlaw07.TalkPlays", spec := "talkPlays", apart := false }
def TalkPlaysSaid : Prop := talkPlaysRow.holds Try.pinned (OpenSpec.ofChange talkPlaysSpec)

/-- ITS FALSE NEIGHBOUR: 'it returns false'. Refute it at one input. -/
def talkPlaysWrong : ChangeSpec := { name := "talkPlays", fn := fun _ => fun
  | [d1, d2, d3, d4] => { results := [.lit (.bool false)], args := [d1, d2, d3, d4] }
  | _ => none }
def TalkPlaysWrongFalsely : Prop := talkPlaysRow.holds Try.pinned (OpenSpec.ofChange talkPlaysWrong)

/-- 'greenscreenlaw07.TalkAgrees': WHATEVER THE INPUT: true; the input reads as it did. -/
def talkAgreesSpec : ChangeSpec := { name := "talkAgrees", fn := fun _ => fun
  | [d1, d2, d3] => { results := [.lit (.bool true)], args := [d1, d2, d3] }
  | _ => none }
def talkAgreesRow : OpenClaim := { program := "ytgjdfhfaikdaaaa", sum := "1e4a848e2a1ef0f843437c6b796290ad37a9328641f621da1be82e2106ae975d", func := "greenscreen/greenscreenlaw07.TalkAgrees", spec := "talkAgrees", apart := false }
def TalkAgreesSaid : Prop := talkAgreesRow.holds Try.pinned (OpenSpec.ofChange talkAgreesSpec)

/-- ITS FALSE NEIGHBOUR: 'it returns false'. Refute it at one input. -/
def talkAgreesWrong : ChangeSpec := { name := "talkAgrees", fn := fun _ => fun
  | [d1, d2, d3] => { results := [.lit (.bool false)], args := [d1, d2, d3] }
  | _ => none }
def TalkAgreesWrongFalsely : Prop := talkAgreesRow.holds Try.pinned (OpenSpec.ofChange talkAgreesWrong)

/-- 'greenscreenlaw07.TalkNames': WHATEVER THE INPUT: true; the input reads as it did. -/
def talkNamesSpec : ChangeSpec := { name := "talkNames", fn := fun _ => fun
  | [d1, d2] => { results := [.lit (.bool true)], args := [d1, d2] }
  | _ => none }
def talkNamesRow : OpenClaim := { program := "ytgjdfhfaikdaaaa", sum := "1e4a848e2a1ef0f843437c6b796290ad37a9328641f621da1be82e2106ae975d", func := "greenscreen/greenscreenlaw07.TalkNames", spec := "talkNames", apart := false }
def TalkNamesSaid : Prop := talkNamesRow.holds Try.pinned (OpenSpec.ofChange talkNamesSpec)

/-- ITS FALSE NEIGHBOUR: 'it returns false'. Refute it at one input. -/
def talkNamesWrong : ChangeSpec := { name := "talkNames", fn := fun _ => fun
  | [d1, d2] => { results := [.lit (.bool false)], args := [d1, d2] }
  | _ => none }
def TalkNamesWrongFalsely : Prop := talkNamesRow.holds Try.pinned (OpenSpec.ofChange talkNamesWrong)

/-- 'greenscreenlaw08.DevicePlays': WHATEVER THE INPUT: true; the input reads as it did. -/
def devicePlaysSpec : ChangeSpec := { name := "devicePlays", fn := fun _ => fun
  | [d1, d2, d3, d4, d5] => { results := [.lit (.bool true)], args := [d1, d2, d3, d4, d5] }
  | _ => none }
def devicePlaysRow : OpenClaim := { program := "ytgjdfhfaikdaaaa", sum := "1e4a848e2a1ef0f843437c6b796290ad37a9328641f621da1be82e2106ae975d", func := "greenscreen/greenscreenlaw08.DevicePlays", spec := "devicePlays", inPlace := ["internal/bytealg.IndexByte", "internal/bytealg.Index"], unfollowed := true, recurses := true, named := ["internal/bytealg.MaxLen"], apart := false }
def DevicePlaysSaid : Prop := devicePlaysRow.holds Try.pinned (OpenSpec.ofChange devicePlaysSpec)

/-- ITS FALSE NEIGHBOUR: 'it returns false'. Refute it at one input. -/
def devicePlaysWrong : ChangeSpec := { name := "devicePlays", fn := fun _ => fun
  | [d1, d2, d3, d4, d5] => { results := [.lit (.bool false)], args := [d1, d2, d3, d4, d5] }
  | _ => none }
def DevicePlaysWrongFalsely : Prop := devicePlaysRow.holds Try.pinned (OpenSpec.ofChange devicePlaysWrong)

/-- 'greenscreenlaw08.DeviceStays': WHATEVER THE INPUT: true; the input reads as it did. -/
def deviceStaysSpec : ChangeSpec := { name := "deviceStays", fn := fun _ => fun
  | [d1, d2] => { results := [.lit (.bool true)], args := [d1, d2] }
  | _ => none }
def deviceStaysRow : OpenClaim := { program := "ytgjdfhfaikdaaaa", sum := "1e4a848e2a1ef0f843437c6b796290ad37a9328641f621da1be82e2106ae975d", func := "greenscreen/greenscreenlaw08.DeviceStays", spec := "deviceStays", inPlace := ["internal/bytealg.IndexByte", "internal/bytealg.Index"], unfollowed := true, recurses := true, named := ["internal/bytealg.MaxLen"], apart := false }
def DeviceStaysSaid : Prop := deviceStaysRow.holds Try.pinned (OpenSpec.ofChange deviceStaysSpec)

/-- ITS FALSE NEIGHBOUR: 'it returns false'. Refute it at one input. -/
def deviceStaysWrong : ChangeSpec := { name := "deviceStays", fn := fun _ => fun
  | [d1, d2] => { results := [.lit (.bool false)], args := [d1, d2] }
  | _ => none }
def DeviceStaysWrongFalsely : Prop := deviceStaysRow.holds Try.pinned (OpenSpec.ofChange deviceStaysWrong)

/-- 'greenscreenlaw08.DeviceAgrees': WHATEVER THE INPUT: true; the input reads as it did. -/
def deviceAgreesSpec : ChangeSpec := { name := "deviceAgrees", fn := fun _ => fun
  | [d1, d2, d3] => { results := [.lit (.bool true)], args := [d1, d2, d3] }
  | _ => none }
def deviceAgreesRow : OpenClaim := { program := "ytgjdfhfaikdaaaa", sum := "1e4a848e2a1ef0f843437c6b796290ad37a9328641f621da1be82e2106ae975d", func := "greenscreen/greenscreenlaw08.DeviceAgrees", spec := "deviceAgrees", inPlace := ["internal/bytealg.IndexByte", "internal/bytealg.Index"], unfollowed := true, recurses := true, named := ["internal/bytealg.MaxLen"], apart := false }
def DeviceAgreesSaid : Prop := deviceAgreesRow.holds Try.pinned (OpenSpec.ofChange deviceAgreesSpec)

/-- ITS FALSE NEIGHBOUR: 'it returns false'. Refute it at one input. -/
def deviceAgreesWrong : ChangeSpec := { name := "deviceAgrees", fn := fun _ => fun
  | [d1, d2, d3] => { results := [.lit (.bool false)], args := [d1, d2, d3] }
  | _ => none }
def DeviceAgreesWrongFalsely : Prop := deviceAgreesRow.holds Try.pinned (OpenSpec.ofChange deviceAgreesWrong)

/-- 'greenscreenlaw08.DeviceAsks': WHATEVER THE INPUT: true; the input reads as it did. -/
def deviceAsksSpec : ChangeSpec := { name := "deviceAsks", fn := fun _ => fun
  | [d1, d2, d3, d4] => { results := [.lit (.bool true)], args := [d1, d2, d3, d4] }
  | _ => none }
def deviceAsksRow : OpenClaim := { program := "ytgjdfhfaikdaaaa", sum := "1e4a848e2a1ef0f843437c6b796290ad37a9328641f621da1be82e2106ae975d", func := "greenscreen/greenscreenlaw08.DeviceAsks", spec := "deviceAsks", inPlace := ["internal/bytealg.IndexByte", "internal/bytealg.Index"], unfollowed := true, recurses := true, named := ["internal/bytealg.MaxLen"], apart := false }
def DeviceAsksSaid : Prop := deviceAsksRow.holds Try.pinned (OpenSpec.ofChange deviceAsksSpec)

/-- ITS FALSE NEIGHBOUR: 'it returns false'. Refute it at one input. -/
def deviceAsksWrong : ChangeSpec := { name := "deviceAsks", fn := fun _ => fun
  | [d1, d2, d3, d4] => { results := [.lit (.bool false)], args := [d1, d2, d3, d4] }
  | _ => none }
def DeviceAsksWrongFalsely : Prop := deviceAsksRow.holds Try.pinned (OpenSpec.ofChange deviceAsksWrong)

/- THE SECOND FORM. 'bulk': how many values and letters a reading holds, each counted each time it is reached (what is shared counts as often as it is met; a slice's spare places count too). A statement '..UptoSaid' is the law's where the arguments, and the package variables that the reading takes, are together of bulk at most 1048576: NARROWER than '..Said'. Prove '..Said' where nothing that the law and all that it calls make is longer than what came in: it says more and counts as full. Else prove '..UptoSaid'. A law counts once. -/
mutual
def uptoBulk {H : Type} : DataW H → Nat
  | .lit (.string bytes) => bytes.length + 1
  | .lit _ => 1
  | .nil => 1
  | .ptr d => uptoBulk d + 1
  | .slice elems spare => uptoBulkAll elems + uptoBulkAll spare + 1
  | .agg parts => uptoBulkAll parts + 1
  | .iface _ d => uptoBulk d + 1
  | .map entries => uptoBulkEntries entries + 1
  | .held _ => 1
def uptoBulkAll {H : Type} : List (DataW H) → Nat
  | [] => 0
  | d :: r => uptoBulk d + uptoBulkAll r
def uptoBulkEntries {H : Type} : List (Lit × DataW H) → Nat
  | [] => 0
  | x :: r => uptoBulkEntry x + uptoBulkEntries r
def uptoBulkEntry {H : Type} : Lit × DataW H → Nat
  | (.string bytes, d) => bytes.length + uptoBulk d + 1
  | (_, d) => uptoBulk d + 1
 end
def uptoSmall : (H : Type) → List (DataW H) → Bool := fun _ ds => decide (uptoBulkAll ds ≤ 1048576)
def OpenSpec.upto (s : _root_.Go.ChangeSpec) : _root_.Go.OpenSpec := { _root_.Go.OpenSpec.ofChange s with cond := some uptoSmall }

/-- 'greenscreenlaw05.IacCuts', WHERE WHAT IT READS IS OF BULK AT MOST 1048576: true; the input reads as it did. -/
def iacCutsUptoRow : OpenClaim := { program := "ytgjdfhfaikdaaaa", sum := "1e4a848e2a1ef0f843437c6b796290ad37a9328641f621da1be82e2106ae975d", func := "greenscreen/greenscreenlaw05.IacCuts", spec := "iacCuts", apart := false, narrowed := true }
def IacCutsUptoSaid : Prop := iacCutsUptoRow.holds Try.pinned (OpenSpec.upto iacCutsSpec)

/-- 'greenscreenlaw05.IacWrites', WHERE WHAT IT READS IS OF BULK AT MOST 1048576: true; the input reads as it did. -/
def iacWritesUptoRow : OpenClaim := { program := "ytgjdfhfaikdaaaa", sum := "1e4a848e2a1ef0f843437c6b796290ad37a9328641f621da1be82e2106ae975d", func := "greenscreen/greenscreenlaw05.IacWrites", spec := "iacWrites", apart := false, narrowed := true }
def IacWritesUptoSaid : Prop := iacWritesUptoRow.holds Try.pinned (OpenSpec.upto iacWritesSpec)

/-- 'greenscreenlaw05.IacBack', WHERE WHAT IT READS IS OF BULK AT MOST 1048576: true; the input reads as it did. -/
def iacBackUptoRow : OpenClaim := { program := "ytgjdfhfaikdaaaa", sum := "1e4a848e2a1ef0f843437c6b796290ad37a9328641f621da1be82e2106ae975d", func := "greenscreen/greenscreenlaw05.IacBack", spec := "iacBack", apart := false, narrowed := true }
def IacBackUptoSaid : Prop := iacBackUptoRow.holds Try.pinned (OpenSpec.upto iacBackSpec)

/-- 'greenscreenlaw05.IacEscapes', WHERE WHAT IT READS IS OF BULK AT MOST 1048576: true; the input reads as it did. -/
def iacEscapesUptoRow : OpenClaim := { program := "ytgjdfhfaikdaaaa", sum := "1e4a848e2a1ef0f843437c6b796290ad37a9328641f621da1be82e2106ae975d", func := "greenscreen/greenscreenlaw05.IacEscapes", spec := "iacEscapes", apart := false, narrowed := true }
def IacEscapesUptoSaid : Prop := iacEscapesUptoRow.holds Try.pinned (OpenSpec.upto iacEscapesSpec)

/-- 'greenscreenlaw06.OptionRests', WHERE WHAT IT READS IS OF BULK AT MOST 1048576: true; the input reads as it did. -/
def optionRestsUptoRow : OpenClaim := { program := "ytgjdfhfaikdaaaa", sum := "1e4a848e2a1ef0f843437c6b796290ad37a9328641f621da1be82e2106ae975d", func := "greenscreen/greenscreenlaw06.OptionRests", spec := "optionRests", unfollowed := true, recurses := true, apart := false, narrowed := true }
def OptionRestsUptoSaid : Prop := optionRestsUptoRow.holds Try.pinned (OpenSpec.upto optionRestsSpec)

/-- 'greenscreenlaw07.TalkPlays', WHERE WHAT IT READS IS OF BULK AT MOST 1048576: true; the input reads as it did. -/
def talkPlaysUptoRow : OpenClaim := { program := "ytgjdfhfaikdaaaa", sum := "1e4a848e2a1ef0f843437c6b796290ad37a9328641f621da1be82e2106ae975d", func := "greenscreen/greenscreenlaw07.TalkPlays", spec := "talkPlays", apart := false, narrowed := true }
def TalkPlaysUptoSaid : Prop := talkPlaysUptoRow.holds Try.pinned (OpenSpec.upto talkPlaysSpec)

/-- 'greenscreenlaw07.TalkAgrees', WHERE WHAT IT READS IS OF BULK AT MOST 1048576: true; the input reads as it did. -/
def talkAgreesUptoRow : OpenClaim := { program := "ytgjdfhfaikdaaaa", sum := "1e4a848e2a1ef0f843437c6b796290ad37a9328641f621da1be82e2106ae975d", func := "greenscreen/greenscreenlaw07.TalkAgrees", spec := "talkAgrees", apart := false, narrowed := true }
def TalkAgreesUptoSaid : Prop := talkAgreesUptoRow.holds Try.pinned (OpenSpec.upto talkAgreesSpec)

/-- 'greenscreenlaw07.TalkNames', WHERE WHAT IT READS IS OF BULK AT MOST 1048576: true; the input reads as it did. -/
def talkNamesUptoRow : OpenClaim := { program := "ytgjdfhfaikdaaaa", sum := "1e4a848e2a1ef0f843437c6b796290ad37a9328641f621da1be82e2106ae975d", func := "greenscreen/greenscreenlaw07.TalkNames", spec := "talkNames", apart := false, narrowed := true }
def TalkNamesUptoSaid : Prop := talkNamesUptoRow.holds Try.pinned (OpenSpec.upto talkNamesSpec)

/-- 'greenscreenlaw08.DevicePlays', WHERE WHAT IT READS IS OF BULK AT MOST 1048576: true; the input reads as it did. -/
def devicePlaysUptoRow : OpenClaim := { program := "ytgjdfhfaikdaaaa", sum := "1e4a848e2a1ef0f843437c6b796290ad37a9328641f621da1be82e2106ae975d", func := "greenscreen/greenscreenlaw08.DevicePlays", spec := "devicePlays", inPlace := ["internal/bytealg.IndexByte", "internal/bytealg.Index"], unfollowed := true, recurses := true, named := ["internal/bytealg.MaxLen"], apart := false, narrowed := true }
def DevicePlaysUptoSaid : Prop := devicePlaysUptoRow.holds Try.pinned (OpenSpec.upto devicePlaysSpec)

/-- 'greenscreenlaw08.DeviceStays', WHERE WHAT IT READS IS OF BULK AT MOST 1048576: true; the input reads as it did. -/
def deviceStaysUptoRow : OpenClaim := { program := "ytgjdfhfaikdaaaa", sum := "1e4a848e2a1ef0f843437c6b796290ad37a9328641f621da1be82e2106ae975d", func := "greenscreen/greenscreenlaw08.DeviceStays", spec := "deviceStays", inPlace := ["internal/bytealg.IndexByte", "internal/bytealg.Index"], unfollowed := true, recurses := true, named := ["internal/bytealg.MaxLen"], apart := false, narrowed := true }
def DeviceStaysUptoSaid : Prop := deviceStaysUptoRow.holds Try.pinned (OpenSpec.upto deviceStaysSpec)

/-- 'greenscreenlaw08.DeviceAgrees', WHERE WHAT IT READS IS OF BULK AT MOST 1048576: true; the input reads as it did. -/
def deviceAgreesUptoRow : OpenClaim := { program := "ytgjdfhfaikdaaaa", sum := "1e4a848e2a1ef0f843437c6b796290ad37a9328641f621da1be82e2106ae975d", func := "greenscreen/greenscreenlaw08.DeviceAgrees", spec := "deviceAgrees", inPlace := ["internal/bytealg.IndexByte", "internal/bytealg.Index"], unfollowed := true, recurses := true, named := ["internal/bytealg.MaxLen"], apart := false, narrowed := true }
def DeviceAgreesUptoSaid : Prop := deviceAgreesUptoRow.holds Try.pinned (OpenSpec.upto deviceAgreesSpec)

/-- 'greenscreenlaw08.DeviceAsks', WHERE WHAT IT READS IS OF BULK AT MOST 1048576: true; the input reads as it did. -/
def deviceAsksUptoRow : OpenClaim := { program := "ytgjdfhfaikdaaaa", sum := "1e4a848e2a1ef0f843437c6b796290ad37a9328641f621da1be82e2106ae975d", func := "greenscreen/greenscreenlaw08.DeviceAsks", spec := "deviceAsks", inPlace := ["internal/bytealg.IndexByte", "internal/bytealg.Index"], unfollowed := true, recurses := true, named := ["internal/bytealg.MaxLen"], apart := false, narrowed := true }
def DeviceAsksUptoSaid : Prop := deviceAsksUptoRow.holds Try.pinned (OpenSpec.upto deviceAsksSpec)

end Rows
end Go.Proofs.Ytgjdfhfaikdaaaa
