/-
  DERIVED. GIVEN WITH THE SEED: THE CARDS: each row of YtjeknociobbhpaaDoorRows.lean that lists a variable, with what it lists TIED to the program's text (the seventh form; the later family's looks); each row that meets fmt, with fmt's text TOLD by the authors' own Lean function (tested against real Go, not proved from fmt's source: count such statements apart). THE CARD IS WHAT COUNTS. Prove the row's statement (the work); the ties are given (YtjeknociobbhpaaDoorTie.lean); close each card by the builder's one call (the guide's Derived/Test/ToyasCard.lean, 'card_holds'). Laid BY PROGRAM, IN A SANDBOX (cutbox-door.mjs). By AI agents, Wed Nov 11 2026. No macro, syntax, notation, axiom, sorry.
-/
import Derived.Test.YtjeknociobbhpaaDoorRows
import GoSem.ClaimSeven
namespace Go.Proofs.YtjeknociobbhpaaDoor
namespace Rows

/-- THE TIED CARD OF 'greenscreenlaw12.OrderParses'. -/
def orderParsesCard : Claim7 := { stood := { row := orderParsesRow, standIns := [], harness := (true, "02d32bcbbaa95f6ede1817dff85dc751b1dfea939ae396821c0a8bf798078a8d"), looks := true }, kinds := [], alts := [], laidByText := true, laidKinds := [.data, .data, .data], laidTests := true, laidLooks := .later }
def OrderParsesCardSaid : Prop := Claim7.holds Tryd.pinned (.plain (OpenSpec.ofChange orderParsesSpec)) orderParsesCard

/-- THE TIED CARD OF 'greenscreenlaw12.OrderBack'. -/
def orderBackCard : Claim7 := { stood := { row := orderBackRow, standIns := [], harness := (true, "02d32bcbbaa95f6ede1817dff85dc751b1dfea939ae396821c0a8bf798078a8d"), looks := true }, kinds := [], alts := [], laidByText := true, laidKinds := [.data, .data, .data], laidTests := true, laidLooks := .later }
def OrderBackCardSaid : Prop := Claim7.holds Tryd.pinned (.plain (OpenSpec.ofChange orderBackSpec)) orderBackCard

/-- THE TIED CARD OF 'greenscreenlaw12.OrderPrefix'. -/
def orderPrefixCard : Claim7 := { stood := { row := orderPrefixRow, standIns := [], harness := (true, "02d32bcbbaa95f6ede1817dff85dc751b1dfea939ae396821c0a8bf798078a8d"), looks := true }, kinds := [], alts := [], laidByText := true, laidKinds := [.data, .data, .data], laidTests := true, laidLooks := .later }
def OrderPrefixCardSaid : Prop := Claim7.holds Tryd.pinned (.plain (OpenSpec.ofChange orderPrefixSpec)) orderPrefixCard

/-- THE TIED CARD OF 'greenscreenlaw12.OrderSames'. -/
def orderSamesCard : Claim7 := { stood := { row := orderSamesRow, standIns := [], harness := (true, "02d32bcbbaa95f6ede1817dff85dc751b1dfea939ae396821c0a8bf798078a8d"), looks := true }, kinds := [], alts := [], laidByText := true, laidKinds := [.data, .data, .data], laidTests := true, laidLooks := .later }
def OrderSamesCardSaid : Prop := Claim7.holds Tryd.pinned (.plain (OpenSpec.ofChange orderSamesSpec)) orderSamesCard

/-- THE SECOND FORM's CARD OF 'greenscreenlaw12.OrderParses'. -/
def orderParsesUptoCard : Claim7 := { stood := { row := orderParsesUptoRow, standIns := [], harness := (true, "02d32bcbbaa95f6ede1817dff85dc751b1dfea939ae396821c0a8bf798078a8d"), looks := true }, kinds := [], alts := [], laidByText := true, laidKinds := [.data, .data, .data], laidTests := true, laidLooks := .later }
def OrderParsesUptoCardSaid : Prop := Claim7.holds Tryd.pinned (.plain (OpenSpec.upto orderParsesSpec)) orderParsesUptoCard

/-- THE SECOND FORM's CARD OF 'greenscreenlaw12.OrderBack'. -/
def orderBackUptoCard : Claim7 := { stood := { row := orderBackUptoRow, standIns := [], harness := (true, "02d32bcbbaa95f6ede1817dff85dc751b1dfea939ae396821c0a8bf798078a8d"), looks := true }, kinds := [], alts := [], laidByText := true, laidKinds := [.data, .data, .data], laidTests := true, laidLooks := .later }
def OrderBackUptoCardSaid : Prop := Claim7.holds Tryd.pinned (.plain (OpenSpec.upto orderBackSpec)) orderBackUptoCard

/-- THE SECOND FORM's CARD OF 'greenscreenlaw12.OrderPrefix'. -/
def orderPrefixUptoCard : Claim7 := { stood := { row := orderPrefixUptoRow, standIns := [], harness := (true, "02d32bcbbaa95f6ede1817dff85dc751b1dfea939ae396821c0a8bf798078a8d"), looks := true }, kinds := [], alts := [], laidByText := true, laidKinds := [.data, .data, .data], laidTests := true, laidLooks := .later }
def OrderPrefixUptoCardSaid : Prop := Claim7.holds Tryd.pinned (.plain (OpenSpec.upto orderPrefixSpec)) orderPrefixUptoCard

/-- THE SECOND FORM's CARD OF 'greenscreenlaw12.OrderSames'. -/
def orderSamesUptoCard : Claim7 := { stood := { row := orderSamesUptoRow, standIns := [], harness := (true, "02d32bcbbaa95f6ede1817dff85dc751b1dfea939ae396821c0a8bf798078a8d"), looks := true }, kinds := [], alts := [], laidByText := true, laidKinds := [.data, .data, .data], laidTests := true, laidLooks := .later }
def OrderSamesUptoCardSaid : Prop := Claim7.holds Tryd.pinned (.plain (OpenSpec.upto orderSamesSpec)) orderSamesUptoCard
end Rows
end Go.Proofs.YtjeknociobbhpaaDoor
