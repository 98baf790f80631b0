/-
  NARROWER THAN 'FOR EVERY INPUT', by the rows' own cells (each row's printed sentence says how): CommandParses: laid · CommandBack: laid · CommandFields: laid · CommandNames: laid.
  DERIVED. THE GIVEN ROWS OF THIS SEAT. 4 by the template 'for every input the law returns true; each argument reads behind the call as it read before'; 0 by the template 'total and deterministic' (their statements: YtmmgebiojpnhcaaDoorTotals.lean).
  GIVEN WITH THE SEED: the statements are not yours to turn. If you find one false, say at which input.
  Laid BY PROGRAM, IN A SANDBOX (cutbox-rows.mjs): the forced cells as the released guide's own fill.sh prints them over the translation e27fa79460d7b51f… (all of the seat's roots in one cut). By AI agents, Wed Nov 11 2026. No macro, syntax, notation, axiom, sorry.
-/
import Derived.Test.YtmmgebiojpnhcaaDoorChecked
import GoSem.Claim
import GoSem.ClaimJoined
import GoSem.ClaimMapViews
import Derived.JoinedTies
import Derived.KernelRfl
namespace Go.Proofs.YtmmgebiojpnhcaaDoor
/- THE CELL 'sum', in the pinned program and in every row, IS THE sha256 OF THE DUMP (.gsa) THAT YtmmgebiojpnhcaaDoorProg.lean LOADS. Nothing in Lean hashes anything: it is a label: what it is worth is what the hold of that sum in a sandbox is worth. -/
noncomputable def Tryd.pinned : Pinned := { name := "ytmmgebiojpnhcaadoor", sum := "e27fa79460d7b51f7ed355150ff25df169473055f27b969ec9d59efcb388a071", checked := Tryd.checked }
namespace Rows
def none {H : Type} : Left H := { results := [], args := [] }

/- WHAT THE LISTED PACKAGE-LEVEL VARIABLES READ AS WHEN THE CALL BEGINS. Each datum BY PROGRAM (the guide's laid-datum.mjs) off the statement by which the dump's own 'gosem.cut.vars' lays the variable. In a bare row this is a premise. The card (YtmmgebiojpnhcaaDoorCards.lean) ties it to the program's text. -/
def laid_greenscreen_command_commands {H : Type} : DataW H := .agg [.agg [.lit (.int .u8 241), .lit (.int .u8 1), .lit (.string [87])], .agg [.lit (.int .u8 245), .lit (.int .u8 5), .lit (.string [69, 87])], .agg [.lit (.int .u8 126), .lit (.int .u8 13), .lit (.string [69, 87, 65])], .agg [.lit (.int .u8 111), .lit (.int .u8 15), .lit (.string [69, 65, 85])], .agg [.lit (.int .u8 242), .lit (.int .u8 2), .lit (.string [82, 66])], .agg [.lit (.int .u8 246), .lit (.int .u8 6), .lit (.string [82, 77])], .agg [.lit (.int .u8 110), .lit (.int .u8 14), .lit (.string [82, 77, 65])], .agg [.lit (.int .u8 243), .lit (.int .u8 17), .lit (.string [87, 83, 70])]]

/-- 'greenscreenlaw13.CommandParses': WHATEVER THE INPUT: true; the input reads as it did. -/
def commandParsesSpec : ChangeSpec := { name := "commandParses", fn := fun _ => fun
  | [d1, d2] => { results := [.lit (.bool true)], args := [d1, d2] }
  | _ => none }
def commandParsesRow : OpenClaim := { program := "ytmmgebiojpnhcaadoor", sum := "e27fa79460d7b51f7ed355150ff25df169473055f27b969ec9d59efcb388a071", func := "greenscreen/greenscreenlaw13.CommandParses", spec := "commandParses", unfollowed := true, recurses := true, named := ["greenscreen/command.commands"], plainKeys := false, apart := false, laid := [("greenscreen/command.commands", laid_greenscreen_command_commands)] }
def CommandParsesSaid : Prop := commandParsesRow.holds Tryd.pinned (OpenSpec.ofChange commandParsesSpec)

/-- ITS FALSE NEIGHBOUR: 'it returns false'. Refute it at one input. -/
def commandParsesWrong : ChangeSpec := { name := "commandParses", fn := fun _ => fun
  | [d1, d2] => { results := [.lit (.bool false)], args := [d1, d2] }
  | _ => none }
def CommandParsesWrongFalsely : Prop := commandParsesRow.holds Tryd.pinned (OpenSpec.ofChange commandParsesWrong)

/-- 'greenscreenlaw13.CommandBack': WHATEVER THE INPUT: true; the input reads as it did. -/
def commandBackSpec : ChangeSpec := { name := "commandBack", fn := fun _ => fun
  | [d] => { results := [.lit (.bool true)], args := [d] }
  | _ => none }
def commandBackRow : OpenClaim := { program := "ytmmgebiojpnhcaadoor", sum := "e27fa79460d7b51f7ed355150ff25df169473055f27b969ec9d59efcb388a071", func := "greenscreen/greenscreenlaw13.CommandBack", spec := "commandBack", unfollowed := true, recurses := true, named := ["greenscreen/command.commands"], plainKeys := false, apart := false, laid := [("greenscreen/command.commands", laid_greenscreen_command_commands)] }
def CommandBackSaid : Prop := commandBackRow.holds Tryd.pinned (OpenSpec.ofChange commandBackSpec)

/-- ITS FALSE NEIGHBOUR: 'it returns false'. Refute it at one input. -/
def commandBackWrong : ChangeSpec := { name := "commandBack", fn := fun _ => fun
  | [d] => { results := [.lit (.bool false)], args := [d] }
  | _ => none }
def CommandBackWrongFalsely : Prop := commandBackRow.holds Tryd.pinned (OpenSpec.ofChange commandBackWrong)

/-- 'greenscreenlaw13.CommandFields': WHATEVER THE INPUT: true; the input reads as it did. -/
def commandFieldsSpec : ChangeSpec := { name := "commandFields", fn := fun _ => fun
  | [d] => { results := [.lit (.bool true)], args := [d] }
  | _ => none }
def commandFieldsRow : OpenClaim := { program := "ytmmgebiojpnhcaadoor", sum := "e27fa79460d7b51f7ed355150ff25df169473055f27b969ec9d59efcb388a071", func := "greenscreen/greenscreenlaw13.CommandFields", spec := "commandFields", unfollowed := true, recurses := true, named := ["greenscreen/command.commands"], plainKeys := false, apart := false, laid := [("greenscreen/command.commands", laid_greenscreen_command_commands)] }
def CommandFieldsSaid : Prop := commandFieldsRow.holds Tryd.pinned (OpenSpec.ofChange commandFieldsSpec)

/-- ITS FALSE NEIGHBOUR: 'it returns false'. Refute it at one input. -/
def commandFieldsWrong : ChangeSpec := { name := "commandFields", fn := fun _ => fun
  | [d] => { results := [.lit (.bool false)], args := [d] }
  | _ => none }
def CommandFieldsWrongFalsely : Prop := commandFieldsRow.holds Tryd.pinned (OpenSpec.ofChange commandFieldsWrong)

/-- 'greenscreenlaw13.CommandNames': WHATEVER THE INPUT: true; the input reads as it did. -/
def commandNamesSpec : ChangeSpec := { name := "commandNames", fn := fun _ => fun
  | [d1, d2] => { results := [.lit (.bool true)], args := [d1, d2] }
  | _ => none }
def commandNamesRow : OpenClaim := { program := "ytmmgebiojpnhcaadoor", sum := "e27fa79460d7b51f7ed355150ff25df169473055f27b969ec9d59efcb388a071", func := "greenscreen/greenscreenlaw13.CommandNames", spec := "commandNames", unfollowed := true, recurses := true, named := ["greenscreen/command.commands"], plainKeys := false, apart := false, laid := [("greenscreen/command.commands", laid_greenscreen_command_commands)] }
def CommandNamesSaid : Prop := commandNamesRow.holds Tryd.pinned (OpenSpec.ofChange commandNamesSpec)

/-- ITS FALSE NEIGHBOUR: 'it returns false'. Refute it at one input. -/
def commandNamesWrong : ChangeSpec := { name := "commandNames", fn := fun _ => fun
  | [d1, d2] => { results := [.lit (.bool false)], args := [d1, d2] }
  | _ => none }
def CommandNamesWrongFalsely : Prop := commandNamesRow.holds Tryd.pinned (OpenSpec.ofChange commandNamesWrong)

/- THE SECOND FORM. 'bulk': how many values and letters a reading holds, each counted each time it is reached (what is shared counts as often as it is met; a slice's spare places count too). A statement '..UptoSaid' is the law's where the arguments, and the package variables that the reading takes, are together of bulk at most 1048576: NARROWER than '..Said'. Prove '..Said' where nothing that the law and all that it calls make is longer than what came in: it says more and counts as full. Else prove '..UptoSaid'. A law counts once. -/
mutual
def uptoBulk {H : Type} : DataW H → Nat
  | .lit (.string bytes) => bytes.length + 1
  | .lit _ => 1
  | .nil => 1
  | .ptr d => uptoBulk d + 1
  | .slice elems spare => uptoBulkAll elems + uptoBulkAll spare + 1
  | .agg parts => uptoBulkAll parts + 1
  | .iface _ d => uptoBulk d + 1
  | .map entries => uptoBulkEntries entries + 1
  | .held _ => 1
def uptoBulkAll {H : Type} : List (DataW H) → Nat
  | [] => 0
  | d :: r => uptoBulk d + uptoBulkAll r
def uptoBulkEntries {H : Type} : List (Lit × DataW H) → Nat
  | [] => 0
  | x :: r => uptoBulkEntry x + uptoBulkEntries r
def uptoBulkEntry {H : Type} : Lit × DataW H → Nat
  | (.string bytes, d) => bytes.length + uptoBulk d + 1
  | (_, d) => uptoBulk d + 1
 end
def uptoSmall : (H : Type) → List (DataW H) → Bool := fun _ ds => decide (uptoBulkAll ds ≤ 1048576)
def OpenSpec.upto (s : _root_.Go.ChangeSpec) : _root_.Go.OpenSpec := { _root_.Go.OpenSpec.ofChange s with cond := some uptoSmall }

/-- 'greenscreenlaw13.CommandParses', WHERE WHAT IT READS IS OF BULK AT MOST 1048576: true; the input reads as it did. -/
def commandParsesUptoRow : OpenClaim := { program := "ytmmgebiojpnhcaadoor", sum := "e27fa79460d7b51f7ed355150ff25df169473055f27b969ec9d59efcb388a071", func := "greenscreen/greenscreenlaw13.CommandParses", spec := "commandParses", unfollowed := true, recurses := true, named := ["greenscreen/command.commands"], plainKeys := false, apart := false, laid := [("greenscreen/command.commands", laid_greenscreen_command_commands)], narrowed := true }
def CommandParsesUptoSaid : Prop := commandParsesUptoRow.holds Tryd.pinned (OpenSpec.upto commandParsesSpec)

/-- 'greenscreenlaw13.CommandBack', WHERE WHAT IT READS IS OF BULK AT MOST 1048576: true; the input reads as it did. -/
def commandBackUptoRow : OpenClaim := { program := "ytmmgebiojpnhcaadoor", sum := "e27fa79460d7b51f7ed355150ff25df169473055f27b969ec9d59efcb388a071", func := "greenscreen/greenscreenlaw13.CommandBack", spec := "commandBack", unfollowed := true, recurses := true, named := ["greenscreen/command.commands"], plainKeys := false, apart := false, laid := [("greenscreen/command.commands", laid_greenscreen_command_commands)], narrowed := true }
def CommandBackUptoSaid : Prop := commandBackUptoRow.holds Tryd.pinned (OpenSpec.upto commandBackSpec)

/-- 'greenscreenlaw13.CommandFields', WHERE WHAT IT READS IS OF BULK AT MOST 1048576: true; the input reads as it did. -/
def commandFieldsUptoRow : OpenClaim := { program := "ytmmgebiojpnhcaadoor", sum := "e27fa79460d7b51f7ed355150ff25df169473055f27b969ec9d59efcb388a071", func := "greenscreen/greenscreenlaw13.CommandFields", spec := "commandFields", unfollowed := true, recurses := true, named := ["greenscreen/command.commands"], plainKeys := false, apart := false, laid := [("greenscreen/command.commands", laid_greenscreen_command_commands)], narrowed := true }
def CommandFieldsUptoSaid : Prop := commandFieldsUptoRow.holds Tryd.pinned (OpenSpec.upto commandFieldsSpec)

/-- 'greenscreenlaw13.CommandNames', WHERE WHAT IT READS IS OF BULK AT MOST 1048576: true; the input reads as it did. -/
def commandNamesUptoRow : OpenClaim := { program := "ytmmgebiojpnhcaadoor", sum := "e27fa79460d7b51f7ed355150ff25df169473055f27b969ec9d59efcb388a071", func := "greenscreen/greenscreenlaw13.CommandNames", spec := "commandNames", unfollowed := true, recurses := true, named := ["greenscreen/command.commands"], plainKeys := false, apart := false, laid := [("greenscreen/command.commands", laid_greenscreen_command_commands)], narrowed := true }
def CommandNamesUptoSaid : Prop := commandNamesUptoRow.holds Tryd.pinned (OpenSpec.upto commandNamesSpec)

end Rows
end Go.Proofs.YtmmgebiojpnhcaaDoor
