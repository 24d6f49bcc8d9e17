/-
  DERIVED. GIVEN WITH THE SEED: THE CARDS: each row of YtdclocpjbaknoaaDoorRows.lean that lists a variable, with what it lists TIED to the program's text (the seventh form; the later family's looks); each row that meets fmt, with fmt's text TOLD by the authors' own Lean function (tested against real Go, not proved from fmt's source: count such statements apart). THE CARD IS WHAT COUNTS. Prove the row's statement (the work); the ties are given (YtdclocpjbaknoaaDoorTie.lean); close each card by the builder's one call (the guide's Derived/Test/ToyasCard.lean, 'card_holds'). Laid BY PROGRAM, IN A SANDBOX (cutbox-door.mjs). By AI agents, Wed Nov 11 2026. No macro, syntax, notation, axiom, sorry.
-/
import Derived.Test.YtdclocpjbaknoaaDoorRows
import GoSem.ClaimSeven
namespace Go.Proofs.YtdclocpjbaknoaaDoor
namespace Rows

/-- THE TIED CARD OF 'ammonitelaw2.DigitRuns'. -/
def digitRunsCard : Claim7 := { stood := { row := digitRunsRow, standIns := [], harness := (true, "555b3d8feda0342c69b7f3f886ba61038e4e012d23ef4eef1b9f64a391cc5a7d"), looks := false }, kinds := [], alts := [], laidByText := true, laidKinds := [.data, .data, .data], laidTests := true, laidLooks := .later }
def DigitRunsCardSaid : Prop := Claim7.holds Tryd.pinned (.plain (OpenSpec.ofChange digitRunsSpec)) digitRunsCard

/-- THE TIED CARD OF 'ammonitelaw2.DigitTells'. -/
def digitTellsCard : Claim7 := { stood := { row := digitTellsRow, standIns := [], harness := (true, "555b3d8feda0342c69b7f3f886ba61038e4e012d23ef4eef1b9f64a391cc5a7d"), looks := false }, kinds := [], alts := [], laidByText := true, laidKinds := [.data, .data, .data], laidTests := true, laidLooks := .later }
def DigitTellsCardSaid : Prop := Claim7.holds Tryd.pinned (.plain (OpenSpec.ofChange digitTellsSpec)) digitTellsCard

/-- THE TIED CARD OF 'ammonitelaw2.DigitBack'. -/
def digitBackCard : Claim7 := { stood := { row := digitBackRow, standIns := [], harness := (true, "555b3d8feda0342c69b7f3f886ba61038e4e012d23ef4eef1b9f64a391cc5a7d"), looks := false }, kinds := [], alts := [], laidByText := true, laidKinds := [.data, .data, .data], laidTests := true, laidLooks := .later }
def DigitBackCardSaid : Prop := Claim7.holds Tryd.pinned (.plain (OpenSpec.ofChange digitBackSpec)) digitBackCard

/-- THE TIED CARD OF 'ammonitelaw2.DigitOrder'. -/
def digitOrderCard : Claim7 := { stood := { row := digitOrderRow, standIns := [], harness := (true, "555b3d8feda0342c69b7f3f886ba61038e4e012d23ef4eef1b9f64a391cc5a7d"), looks := false }, kinds := [], alts := [], laidByText := true, laidKinds := [.data, .data, .data], laidTests := true, laidLooks := .later }
def DigitOrderCardSaid : Prop := Claim7.holds Tryd.pinned (.plain (OpenSpec.ofChange digitOrderSpec)) digitOrderCard

/-- THE TIED CARD OF 'ammonitelaw2.DigitStops'. -/
def digitStopsCard : Claim7 := { stood := { row := digitStopsRow, standIns := [], harness := (true, "555b3d8feda0342c69b7f3f886ba61038e4e012d23ef4eef1b9f64a391cc5a7d"), looks := false }, kinds := [], alts := [], laidByText := true, laidKinds := [.data, .data, .data], laidTests := true, laidLooks := .later }
def DigitStopsCardSaid : Prop := Claim7.holds Tryd.pinned (.plain (OpenSpec.ofChange digitStopsSpec)) digitStopsCard

/-- THE SECOND FORM's CARD OF 'ammonitelaw2.DigitRuns'. -/
def digitRunsUptoCard : Claim7 := { stood := { row := digitRunsUptoRow, standIns := [], harness := (true, "555b3d8feda0342c69b7f3f886ba61038e4e012d23ef4eef1b9f64a391cc5a7d"), looks := false }, kinds := [], alts := [], laidByText := true, laidKinds := [.data, .data, .data], laidTests := true, laidLooks := .later }
def DigitRunsUptoCardSaid : Prop := Claim7.holds Tryd.pinned (.plain (OpenSpec.upto digitRunsSpec)) digitRunsUptoCard

/-- THE SECOND FORM's CARD OF 'ammonitelaw2.DigitTells'. -/
def digitTellsUptoCard : Claim7 := { stood := { row := digitTellsUptoRow, standIns := [], harness := (true, "555b3d8feda0342c69b7f3f886ba61038e4e012d23ef4eef1b9f64a391cc5a7d"), looks := false }, kinds := [], alts := [], laidByText := true, laidKinds := [.data, .data, .data], laidTests := true, laidLooks := .later }
def DigitTellsUptoCardSaid : Prop := Claim7.holds Tryd.pinned (.plain (OpenSpec.upto digitTellsSpec)) digitTellsUptoCard

/-- THE SECOND FORM's CARD OF 'ammonitelaw2.DigitBack'. -/
def digitBackUptoCard : Claim7 := { stood := { row := digitBackUptoRow, standIns := [], harness := (true, "555b3d8feda0342c69b7f3f886ba61038e4e012d23ef4eef1b9f64a391cc5a7d"), looks := false }, kinds := [], alts := [], laidByText := true, laidKinds := [.data, .data, .data], laidTests := true, laidLooks := .later }
def DigitBackUptoCardSaid : Prop := Claim7.holds Tryd.pinned (.plain (OpenSpec.upto digitBackSpec)) digitBackUptoCard

/-- THE SECOND FORM's CARD OF 'ammonitelaw2.DigitOrder'. -/
def digitOrderUptoCard : Claim7 := { stood := { row := digitOrderUptoRow, standIns := [], harness := (true, "555b3d8feda0342c69b7f3f886ba61038e4e012d23ef4eef1b9f64a391cc5a7d"), looks := false }, kinds := [], alts := [], laidByText := true, laidKinds := [.data, .data, .data], laidTests := true, laidLooks := .later }
def DigitOrderUptoCardSaid : Prop := Claim7.holds Tryd.pinned (.plain (OpenSpec.upto digitOrderSpec)) digitOrderUptoCard

/-- THE SECOND FORM's CARD OF 'ammonitelaw2.DigitStops'. -/
def digitStopsUptoCard : Claim7 := { stood := { row := digitStopsUptoRow, standIns := [], harness := (true, "555b3d8feda0342c69b7f3f886ba61038e4e012d23ef4eef1b9f64a391cc5a7d"), looks := false }, kinds := [], alts := [], laidByText := true, laidKinds := [.data, .data, .data], laidTests := true, laidLooks := .later }
def DigitStopsUptoCardSaid : Prop := Claim7.holds Tryd.pinned (.plain (OpenSpec.upto digitStopsSpec)) digitStopsUptoCard
end Rows
end Go.Proofs.YtdclocpjbaknoaaDoor
