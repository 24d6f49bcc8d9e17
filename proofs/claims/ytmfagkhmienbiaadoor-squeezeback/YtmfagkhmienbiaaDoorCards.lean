/-
  DERIVED. GIVEN WITH THE SEED: THE CARDS: each row of YtmfagkhmienbiaaDoorRows.lean that lists a variable, with what it lists TIED to the program's text (the seventh form; the later family's looks); each row that meets fmt, with fmt's text TOLD by the authors' own Lean function (tested against real Go, not proved from fmt's source: count such statements apart). THE CARD IS WHAT COUNTS. Prove the row's statement (the work); the ties are given (YtmfagkhmienbiaaDoorTie.lean); close each card by the builder's one call (the guide's Derived/Test/ToyasCard.lean, 'card_holds'). Laid BY PROGRAM, IN A SANDBOX (cutbox-door.mjs). By AI agents, Wed Nov 11 2026. No macro, syntax, notation, axiom, sorry.
-/
import Derived.Test.YtmfagkhmienbiaaDoorRows
import GoSem.ClaimSeven
namespace Go.Proofs.YtmfagkhmienbiaaDoor
namespace Rows

/-- THE TIED CARD OF 'ammonitelaw4.SqueezeTells'. -/
def squeezeTellsCard : Claim7 := { stood := { row := squeezeTellsRow, standIns := [], harness := (true, "153655452410417225b5a04677c66ab7b228502247a1d1d65fed9752a4fa9804"), looks := false }, kinds := [], alts := [], laidByText := true, laidKinds := [.data, .data, .data], laidTests := true, laidLooks := .later }
def SqueezeTellsCardSaid : Prop := Claim7.holds Tryd.pinned (.plain (OpenSpec.ofChange squeezeTellsSpec)) squeezeTellsCard

/-- THE TIED CARD OF 'ammonitelaw4.SqueezeBack'. -/
def squeezeBackCard : Claim7 := { stood := { row := squeezeBackRow, standIns := [], harness := (true, "153655452410417225b5a04677c66ab7b228502247a1d1d65fed9752a4fa9804"), looks := false }, kinds := [], alts := [], laidByText := true, laidKinds := [.data, .data, .data], laidTests := true, laidLooks := .later }
def SqueezeBackCardSaid : Prop := Claim7.holds Tryd.pinned (.plain (OpenSpec.ofChange squeezeBackSpec)) squeezeBackCard

/-- THE TIED CARD OF 'ammonitelaw4.SqueezeBombs'. -/
def squeezeBombsCard : Claim7 := { stood := { row := squeezeBombsRow, standIns := [], harness := (true, "153655452410417225b5a04677c66ab7b228502247a1d1d65fed9752a4fa9804"), looks := false }, kinds := [], alts := [], laidByText := true, laidKinds := [.data, .data, .data], laidTests := true, laidLooks := .later }
def SqueezeBombsCardSaid : Prop := Claim7.holds Tryd.pinned (.plain (OpenSpec.ofChange squeezeBombsSpec)) squeezeBombsCard

/-- THE TIED CARD OF 'ammonitelaw4.SqueezePieces'. -/
def squeezePiecesCard : Claim7 := { stood := { row := squeezePiecesRow, standIns := [], harness := (true, "153655452410417225b5a04677c66ab7b228502247a1d1d65fed9752a4fa9804"), looks := false }, kinds := [], alts := [], laidByText := true, laidKinds := [.data, .data, .data], laidTests := true, laidLooks := .later }
def SqueezePiecesCardSaid : Prop := Claim7.holds Tryd.pinned (.plain (OpenSpec.ofChange squeezePiecesSpec)) squeezePiecesCard

/-- THE SECOND FORM's CARD OF 'ammonitelaw4.SqueezeTells'. -/
def squeezeTellsUptoCard : Claim7 := { stood := { row := squeezeTellsUptoRow, standIns := [], harness := (true, "153655452410417225b5a04677c66ab7b228502247a1d1d65fed9752a4fa9804"), looks := false }, kinds := [], alts := [], laidByText := true, laidKinds := [.data, .data, .data], laidTests := true, laidLooks := .later }
def SqueezeTellsUptoCardSaid : Prop := Claim7.holds Tryd.pinned (.plain (OpenSpec.upto squeezeTellsSpec)) squeezeTellsUptoCard

/-- THE SECOND FORM's CARD OF 'ammonitelaw4.SqueezeBack'. -/
def squeezeBackUptoCard : Claim7 := { stood := { row := squeezeBackUptoRow, standIns := [], harness := (true, "153655452410417225b5a04677c66ab7b228502247a1d1d65fed9752a4fa9804"), looks := false }, kinds := [], alts := [], laidByText := true, laidKinds := [.data, .data, .data], laidTests := true, laidLooks := .later }
def SqueezeBackUptoCardSaid : Prop := Claim7.holds Tryd.pinned (.plain (OpenSpec.upto squeezeBackSpec)) squeezeBackUptoCard

/-- THE SECOND FORM's CARD OF 'ammonitelaw4.SqueezeBombs'. -/
def squeezeBombsUptoCard : Claim7 := { stood := { row := squeezeBombsUptoRow, standIns := [], harness := (true, "153655452410417225b5a04677c66ab7b228502247a1d1d65fed9752a4fa9804"), looks := false }, kinds := [], alts := [], laidByText := true, laidKinds := [.data, .data, .data], laidTests := true, laidLooks := .later }
def SqueezeBombsUptoCardSaid : Prop := Claim7.holds Tryd.pinned (.plain (OpenSpec.upto squeezeBombsSpec)) squeezeBombsUptoCard

/-- THE SECOND FORM's CARD OF 'ammonitelaw4.SqueezePieces'. -/
def squeezePiecesUptoCard : Claim7 := { stood := { row := squeezePiecesUptoRow, standIns := [], harness := (true, "153655452410417225b5a04677c66ab7b228502247a1d1d65fed9752a4fa9804"), looks := false }, kinds := [], alts := [], laidByText := true, laidKinds := [.data, .data, .data], laidTests := true, laidLooks := .later }
def SqueezePiecesUptoCardSaid : Prop := Claim7.holds Tryd.pinned (.plain (OpenSpec.upto squeezePiecesSpec)) squeezePiecesUptoCard
end Rows
end Go.Proofs.YtmfagkhmienbiaaDoor
