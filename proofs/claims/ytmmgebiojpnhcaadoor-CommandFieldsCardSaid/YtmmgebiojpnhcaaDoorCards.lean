/-
  DERIVED. GIVEN WITH THE SEED: THE CARDS: each row of YtmmgebiojpnhcaaDoorRows.lean that lists a variable, with what it lists TIED to the program's text (the seventh form; the later family's looks); each row that meets fmt, with fmt's text TOLD by the authors' own Lean function (tested against real Go, not proved from fmt's source: count such statements apart). THE CARD IS WHAT COUNTS. Prove the row's statement (the work); the ties are given (YtmmgebiojpnhcaaDoorTie.lean); close each card by the builder's one call (the guide's Derived/Test/ToyasCard.lean, 'card_holds'). Laid BY PROGRAM, IN A SANDBOX (cutbox-door.mjs). By AI agents, Wed Nov 11 2026. No macro, syntax, notation, axiom, sorry.
-/
import Derived.Test.YtmmgebiojpnhcaaDoorRows
import GoSem.ClaimSeven
namespace Go.Proofs.YtmmgebiojpnhcaaDoor
namespace Rows

/-- THE TIED CARD OF 'greenscreenlaw13.CommandParses'. -/
def commandParsesCard : Claim7 := { stood := { row := commandParsesRow, standIns := [], harness := (true, "79683c7a61510cb3190f66f2559a5fd4f154270ecaadd7c6be8ffcff3096b93f"), looks := true }, kinds := [], alts := [], laidByText := true, laidKinds := [.data], laidTests := true, laidLooks := .later }
def CommandParsesCardSaid : Prop := Claim7.holds Tryd.pinned (.plain (OpenSpec.ofChange commandParsesSpec)) commandParsesCard

/-- THE TIED CARD OF 'greenscreenlaw13.CommandBack'. -/
def commandBackCard : Claim7 := { stood := { row := commandBackRow, standIns := [], harness := (true, "79683c7a61510cb3190f66f2559a5fd4f154270ecaadd7c6be8ffcff3096b93f"), looks := true }, kinds := [], alts := [], laidByText := true, laidKinds := [.data], laidTests := true, laidLooks := .later }
def CommandBackCardSaid : Prop := Claim7.holds Tryd.pinned (.plain (OpenSpec.ofChange commandBackSpec)) commandBackCard

/-- THE TIED CARD OF 'greenscreenlaw13.CommandFields'. -/
def commandFieldsCard : Claim7 := { stood := { row := commandFieldsRow, standIns := [], harness := (true, "79683c7a61510cb3190f66f2559a5fd4f154270ecaadd7c6be8ffcff3096b93f"), looks := true }, kinds := [], alts := [], laidByText := true, laidKinds := [.data], laidTests := true, laidLooks := .later }
def CommandFieldsCardSaid : Prop := Claim7.holds Tryd.pinned (.plain (OpenSpec.ofChange commandFieldsSpec)) commandFieldsCard

/-- THE TIED CARD OF 'greenscreenlaw13.CommandNames'. -/
def commandNamesCard : Claim7 := { stood := { row := commandNamesRow, standIns := [], harness := (true, "79683c7a61510cb3190f66f2559a5fd4f154270ecaadd7c6be8ffcff3096b93f"), looks := true }, kinds := [], alts := [], laidByText := true, laidKinds := [.data], laidTests := true, laidLooks := .later }
def CommandNamesCardSaid : Prop := Claim7.holds Tryd.pinned (.plain (OpenSpec.ofChange commandNamesSpec)) commandNamesCard

/-- THE SECOND FORM's CARD OF 'greenscreenlaw13.CommandParses'. -/
def commandParsesUptoCard : Claim7 := { stood := { row := commandParsesUptoRow, standIns := [], harness := (true, "79683c7a61510cb3190f66f2559a5fd4f154270ecaadd7c6be8ffcff3096b93f"), looks := true }, kinds := [], alts := [], laidByText := true, laidKinds := [.data], laidTests := true, laidLooks := .later }
def CommandParsesUptoCardSaid : Prop := Claim7.holds Tryd.pinned (.plain (OpenSpec.upto commandParsesSpec)) commandParsesUptoCard

/-- THE SECOND FORM's CARD OF 'greenscreenlaw13.CommandBack'. -/
def commandBackUptoCard : Claim7 := { stood := { row := commandBackUptoRow, standIns := [], harness := (true, "79683c7a61510cb3190f66f2559a5fd4f154270ecaadd7c6be8ffcff3096b93f"), looks := true }, kinds := [], alts := [], laidByText := true, laidKinds := [.data], laidTests := true, laidLooks := .later }
def CommandBackUptoCardSaid : Prop := Claim7.holds Tryd.pinned (.plain (OpenSpec.upto commandBackSpec)) commandBackUptoCard

/-- THE SECOND FORM's CARD OF 'greenscreenlaw13.CommandFields'. -/
def commandFieldsUptoCard : Claim7 := { stood := { row := commandFieldsUptoRow, standIns := [], harness := (true, "79683c7a61510cb3190f66f2559a5fd4f154270ecaadd7c6be8ffcff3096b93f"), looks := true }, kinds := [], alts := [], laidByText := true, laidKinds := [.data], laidTests := true, laidLooks := .later }
def CommandFieldsUptoCardSaid : Prop := Claim7.holds Tryd.pinned (.plain (OpenSpec.upto commandFieldsSpec)) commandFieldsUptoCard

/-- THE SECOND FORM's CARD OF 'greenscreenlaw13.CommandNames'. -/
def commandNamesUptoCard : Claim7 := { stood := { row := commandNamesUptoRow, standIns := [], harness := (true, "79683c7a61510cb3190f66f2559a5fd4f154270ecaadd7c6be8ffcff3096b93f"), looks := true }, kinds := [], alts := [], laidByText := true, laidKinds := [.data], laidTests := true, laidLooks := .later }
def CommandNamesUptoCardSaid : Prop := Claim7.holds Tryd.pinned (.plain (OpenSpec.upto commandNamesSpec)) commandNamesUptoCard
end Rows
end Go.Proofs.YtmmgebiojpnhcaaDoor
