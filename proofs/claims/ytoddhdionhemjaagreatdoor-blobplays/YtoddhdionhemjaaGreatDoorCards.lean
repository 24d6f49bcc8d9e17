/-
  DERIVED. GIVEN WITH THE SEED: THE CARDS: each row of YtoddhdionhemjaaGreatDoorRows.lean that lists a variable, with what it lists TIED to the program's text (the seventh form; the later family's looks); each row that meets fmt, with fmt's text TOLD by the authors' own Lean function (tested against real Go, not proved from fmt's source: count such statements apart). THE CARD IS WHAT COUNTS. Prove the row's statement (the work); the ties are given (YtoddhdionhemjaaGreatDoorTie.lean); close each card by the builder's one call (the guide's Derived/Test/ToyasCard.lean, 'card_holds'). Laid BY PROGRAM, IN A SANDBOX (cutbox-door.mjs). By AI agents, Wed Nov 11 2026. No macro, syntax, notation, axiom, sorry.
-/
import Derived.Test.YtoddhdionhemjaaGreatDoorRows
import GoSem.ClaimSeven
namespace Go.Proofs.YtoddhdionhemjaaGreatDoor
namespace Rows

/-- THE TIED CARD OF 'ammonitelaw8.BlobRuns'. -/
def blobRunsCard : Claim7 := { stood := { row := blobRunsRow, standIns := [], harness := (true, "04d384bcd5e1606c314186490421e9fb1325460a962f08c058de870e7d4ea2bc"), looks := false }, kinds := [], alts := [], laidByText := true, laidKinds := [.data, .data, .data], laidTests := true, laidLooks := .later }
def BlobRunsCardSaid : Prop := Claim7.holds Tryz.pinned (.plain (OpenSpec.ofChange blobRunsSpec)) blobRunsCard

/-- THE TIED CARD OF 'ammonitelaw8.BlobPlays'. -/
def blobPlaysCard : Claim7 := { stood := { row := blobPlaysRow, standIns := [], harness := (true, "04d384bcd5e1606c314186490421e9fb1325460a962f08c058de870e7d4ea2bc"), looks := false }, kinds := [], alts := [], laidByText := true, laidKinds := [.data, .data, .data], laidTests := true, laidLooks := .later }
def BlobPlaysCardSaid : Prop := Claim7.holds Tryz.pinned (.plain (OpenSpec.ofChange blobPlaysSpec)) blobPlaysCard

/-- THE TIED CARD OF 'ammonitelaw8.BlobSays'. -/
def blobSaysCard : Claim7 := { stood := { row := blobSaysRow, standIns := [], harness := (true, "04d384bcd5e1606c314186490421e9fb1325460a962f08c058de870e7d4ea2bc"), looks := false }, kinds := [], alts := [], laidByText := true, laidKinds := [.data, .data, .data], laidTests := true, laidLooks := .later }
def BlobSaysCardSaid : Prop := Claim7.holds Tryz.pinned (.plain (OpenSpec.ofChange blobSaysSpec)) blobSaysCard

/-- THE TIED CARD OF 'ammonitelaw8.BlobChains'. -/
def blobChainsCard : Claim7 := { stood := { row := blobChainsRow, standIns := [], harness := (true, "04d384bcd5e1606c314186490421e9fb1325460a962f08c058de870e7d4ea2bc"), looks := false }, kinds := [], alts := [], laidByText := true, laidKinds := [.data, .data, .data], laidTests := true, laidLooks := .later }
def BlobChainsCardSaid : Prop := Claim7.holds Tryz.pinned (.plain (OpenSpec.ofChange blobChainsSpec)) blobChainsCard

/-- THE TIED CARD OF 'ammonitelaw8.BlobBases'. -/
def blobBasesCard : Claim7 := { stood := { row := blobBasesRow, standIns := [], harness := (true, "04d384bcd5e1606c314186490421e9fb1325460a962f08c058de870e7d4ea2bc"), looks := false }, kinds := [], alts := [], laidByText := true, laidKinds := [.data, .data, .data], laidTests := true, laidLooks := .later }
def BlobBasesCardSaid : Prop := Claim7.holds Tryz.pinned (.plain (OpenSpec.ofChange blobBasesSpec)) blobBasesCard

/-- THE SECOND FORM's CARD OF 'ammonitelaw8.BlobRuns'. -/
def blobRunsUptoCard : Claim7 := { stood := { row := blobRunsUptoRow, standIns := [], harness := (true, "04d384bcd5e1606c314186490421e9fb1325460a962f08c058de870e7d4ea2bc"), looks := false }, kinds := [], alts := [], laidByText := true, laidKinds := [.data, .data, .data], laidTests := true, laidLooks := .later }
def BlobRunsUptoCardSaid : Prop := Claim7.holds Tryz.pinned (.plain (OpenSpec.upto blobRunsSpec)) blobRunsUptoCard

/-- THE SECOND FORM's CARD OF 'ammonitelaw8.BlobPlays'. -/
def blobPlaysUptoCard : Claim7 := { stood := { row := blobPlaysUptoRow, standIns := [], harness := (true, "04d384bcd5e1606c314186490421e9fb1325460a962f08c058de870e7d4ea2bc"), looks := false }, kinds := [], alts := [], laidByText := true, laidKinds := [.data, .data, .data], laidTests := true, laidLooks := .later }
def BlobPlaysUptoCardSaid : Prop := Claim7.holds Tryz.pinned (.plain (OpenSpec.upto blobPlaysSpec)) blobPlaysUptoCard

/-- THE SECOND FORM's CARD OF 'ammonitelaw8.BlobSays'. -/
def blobSaysUptoCard : Claim7 := { stood := { row := blobSaysUptoRow, standIns := [], harness := (true, "04d384bcd5e1606c314186490421e9fb1325460a962f08c058de870e7d4ea2bc"), looks := false }, kinds := [], alts := [], laidByText := true, laidKinds := [.data, .data, .data], laidTests := true, laidLooks := .later }
def BlobSaysUptoCardSaid : Prop := Claim7.holds Tryz.pinned (.plain (OpenSpec.upto blobSaysSpec)) blobSaysUptoCard

/-- THE SECOND FORM's CARD OF 'ammonitelaw8.BlobChains'. -/
def blobChainsUptoCard : Claim7 := { stood := { row := blobChainsUptoRow, standIns := [], harness := (true, "04d384bcd5e1606c314186490421e9fb1325460a962f08c058de870e7d4ea2bc"), looks := false }, kinds := [], alts := [], laidByText := true, laidKinds := [.data, .data, .data], laidTests := true, laidLooks := .later }
def BlobChainsUptoCardSaid : Prop := Claim7.holds Tryz.pinned (.plain (OpenSpec.upto blobChainsSpec)) blobChainsUptoCard

/-- THE SECOND FORM's CARD OF 'ammonitelaw8.BlobBases'. -/
def blobBasesUptoCard : Claim7 := { stood := { row := blobBasesUptoRow, standIns := [], harness := (true, "04d384bcd5e1606c314186490421e9fb1325460a962f08c058de870e7d4ea2bc"), looks := false }, kinds := [], alts := [], laidByText := true, laidKinds := [.data, .data, .data], laidTests := true, laidLooks := .later }
def BlobBasesUptoCardSaid : Prop := Claim7.holds Tryz.pinned (.plain (OpenSpec.upto blobBasesSpec)) blobBasesUptoCard
end Rows
end Go.Proofs.YtoddhdionhemjaaGreatDoor
