/-
  No cell of these rows narrows 'for every input' (looked for: loops, veiled, ifaces, maps, wideKeys, modest, calm, conditions, laid).
  DERIVED. THE GIVEN ROWS OF THIS SEAT. 5 by the template 'for every input the law returns true; each argument reads behind the call as it read before'; 0 by the template 'total and deterministic' (their statements: YtblkblnlcogfiaaTotals.lean).
  GIVEN WITH THE SEED: the statements are not yours to turn. If you find one false, say at which input.
  Laid BY PROGRAM, IN A SANDBOX (cutbox-rows.mjs): the forced cells as the released guide's own fill.sh prints them over the translation 6dd2758f3ddb1706… (all of the seat's roots in one cut). By AI agents, Wed Nov 11 2026. No macro, syntax, notation, axiom, sorry.
-/
import Derived.Test.YtblkblnlcogfiaaChecked
import GoSem.Claim
import GoSem.ClaimJoined
import GoSem.ClaimMapViews
import Derived.JoinedTies
import Derived.KernelRfl
namespace Go.Proofs.Ytblkblnlcogfiaa
/- THE CELL 'sum', in the pinned program and in every row, IS THE sha256 OF THE DUMP (.gsa) THAT YtblkblnlcogfiaaProg.lean LOADS. Nothing in Lean hashes anything: it is a label: what it is worth is what the hold of that sum in a sandbox is worth. -/
noncomputable def Try.pinned : Pinned := { name := "ytblkblnlcogfiaa", sum := "6dd2758f3ddb17067607be46bd63bef693591a2255d4ce8d1e5cfd3a87b9f49e", checked := Try.checked }
namespace Rows
def none {H : Type} : Left H := { results := [], args := [] }

/-- 'ammonitelaw3.DeltaRuns': WHATEVER THE INPUT: true; the input reads as it did. -/
def deltaRunsSpec : ChangeSpec := { name := "deltaRuns", fn := fun _ => fun
  | [] => { results := [.lit (.bool true)], args := [] }
  | _ => none }
def deltaRunsRow : OpenClaim := { program := "ytblkblnlcogfiaa", sum := "6dd2758f3ddb17067607be46bd63bef693591a2255d4ce8d1e5cfd3a87b9f49e", func := "ammonite/ammonitelaw3.DeltaRuns", spec := "deltaRuns", inPlace := ["internal/bytealg.IndexByteString"], apart := false }
def DeltaRunsSaid : Prop := deltaRunsRow.holds Try.pinned (OpenSpec.ofChange deltaRunsSpec)

/-- ITS FALSE NEIGHBOUR: 'it returns false'. Refute it at one input. -/
def deltaRunsWrong : ChangeSpec := { name := "deltaRuns", fn := fun _ => fun
  | [] => { results := [.lit (.bool false)], args := [] }
  | _ => none }
def DeltaRunsWrongFalsely : Prop := deltaRunsRow.holds Try.pinned (OpenSpec.ofChange deltaRunsWrong)

/-- 'ammonitelaw3.DeltaTells': WHATEVER THE INPUT: true; the input reads as it did. -/
def deltaTellsSpec : ChangeSpec := { name := "deltaTells", fn := fun _ => fun
  | [d1, d2, d3, d4, d5, d6] => { results := [.lit (.bool true)], args := [d1, d2, d3, d4, d5, d6] }
  | _ => none }
def deltaTellsRow : OpenClaim := { program := "ytblkblnlcogfiaa", sum := "6dd2758f3ddb17067607be46bd63bef693591a2255d4ce8d1e5cfd3a87b9f49e", func := "ammonite/ammonitelaw3.DeltaTells", spec := "deltaTells", inPlace := ["internal/bytealg.IndexByteString"], recurses := true, apart := false }
def DeltaTellsSaid : Prop := deltaTellsRow.holds Try.pinned (OpenSpec.ofChange deltaTellsSpec)

/-- ITS FALSE NEIGHBOUR: 'it returns false'. Refute it at one input. -/
def deltaTellsWrong : ChangeSpec := { name := "deltaTells", fn := fun _ => fun
  | [d1, d2, d3, d4, d5, d6] => { results := [.lit (.bool false)], args := [d1, d2, d3, d4, d5, d6] }
  | _ => none }
def DeltaTellsWrongFalsely : Prop := deltaTellsRow.holds Try.pinned (OpenSpec.ofChange deltaTellsWrong)

/-- 'ammonitelaw3.DeltaMakes': WHATEVER THE INPUT: true; the input reads as it did. -/
def deltaMakesSpec : ChangeSpec := { name := "deltaMakes", fn := fun _ => fun
  | [d1, d2, d3] => { results := [.lit (.bool true)], args := [d1, d2, d3] }
  | _ => none }
def deltaMakesRow : OpenClaim := { program := "ytblkblnlcogfiaa", sum := "6dd2758f3ddb17067607be46bd63bef693591a2255d4ce8d1e5cfd3a87b9f49e", func := "ammonite/ammonitelaw3.DeltaMakes", spec := "deltaMakes", inPlace := ["internal/bytealg.IndexByteString", "internal/bytealg.IndexString"], named := ["internal/bytealg.MaxLen"], apart := false }
def DeltaMakesSaid : Prop := deltaMakesRow.holds Try.pinned (OpenSpec.ofChange deltaMakesSpec)

/-- ITS FALSE NEIGHBOUR: 'it returns false'. Refute it at one input. -/
def deltaMakesWrong : ChangeSpec := { name := "deltaMakes", fn := fun _ => fun
  | [d1, d2, d3] => { results := [.lit (.bool false)], args := [d1, d2, d3] }
  | _ => none }
def DeltaMakesWrongFalsely : Prop := deltaMakesRow.holds Try.pinned (OpenSpec.ofChange deltaMakesWrong)

/-- 'ammonitelaw3.DeltaLimits': WHATEVER THE INPUT: true; the input reads as it did. -/
def deltaLimitsSpec : ChangeSpec := { name := "deltaLimits", fn := fun _ => fun
  | [d1, d2] => { results := [.lit (.bool true)], args := [d1, d2] }
  | _ => none }
def deltaLimitsRow : OpenClaim := { program := "ytblkblnlcogfiaa", sum := "6dd2758f3ddb17067607be46bd63bef693591a2255d4ce8d1e5cfd3a87b9f49e", func := "ammonite/ammonitelaw3.DeltaLimits", spec := "deltaLimits", inPlace := ["internal/bytealg.IndexByteString", "internal/bytealg.IndexString"], named := ["internal/bytealg.MaxLen"], apart := false }
def DeltaLimitsSaid : Prop := deltaLimitsRow.holds Try.pinned (OpenSpec.ofChange deltaLimitsSpec)

/-- ITS FALSE NEIGHBOUR: 'it returns false'. Refute it at one input. -/
def deltaLimitsWrong : ChangeSpec := { name := "deltaLimits", fn := fun _ => fun
  | [d1, d2] => { results := [.lit (.bool false)], args := [d1, d2] }
  | _ => none }
def DeltaLimitsWrongFalsely : Prop := deltaLimitsRow.holds Try.pinned (OpenSpec.ofChange deltaLimitsWrong)

/-- 'ammonitelaw3.DeltaParts': WHATEVER THE INPUT: true; the input reads as it did. -/
def deltaPartsSpec : ChangeSpec := { name := "deltaParts", fn := fun _ => fun
  | [d1, d2, d3] => { results := [.lit (.bool true)], args := [d1, d2, d3] }
  | _ => none }
def deltaPartsRow : OpenClaim := { program := "ytblkblnlcogfiaa", sum := "6dd2758f3ddb17067607be46bd63bef693591a2255d4ce8d1e5cfd3a87b9f49e", func := "ammonite/ammonitelaw3.DeltaParts", spec := "deltaParts", inPlace := ["internal/bytealg.IndexByteString"], apart := false }
def DeltaPartsSaid : Prop := deltaPartsRow.holds Try.pinned (OpenSpec.ofChange deltaPartsSpec)

/-- ITS FALSE NEIGHBOUR: 'it returns false'. Refute it at one input. -/
def deltaPartsWrong : ChangeSpec := { name := "deltaParts", fn := fun _ => fun
  | [d1, d2, d3] => { results := [.lit (.bool false)], args := [d1, d2, d3] }
  | _ => none }
def DeltaPartsWrongFalsely : Prop := deltaPartsRow.holds Try.pinned (OpenSpec.ofChange deltaPartsWrong)

/- THE SECOND FORM. 'bulk': how many values and letters a reading holds, each counted each time it is reached (what is shared counts as often as it is met; a slice's spare places count too). A statement '..UptoSaid' is the law's where the arguments, and the package variables that the reading takes, are together of bulk at most 1048576: NARROWER than '..Said'. Prove '..Said' where nothing that the law and all that it calls make is longer than what came in: it says more and counts as full. Else prove '..UptoSaid'. A law counts once. -/
mutual
def uptoBulk {H : Type} : DataW H → Nat
  | .lit (.string bytes) => bytes.length + 1
  | .lit _ => 1
  | .nil => 1
  | .ptr d => uptoBulk d + 1
  | .slice elems spare => uptoBulkAll elems + uptoBulkAll spare + 1
  | .agg parts => uptoBulkAll parts + 1
  | .iface _ d => uptoBulk d + 1
  | .map entries => uptoBulkEntries entries + 1
  | .held _ => 1
def uptoBulkAll {H : Type} : List (DataW H) → Nat
  | [] => 0
  | d :: r => uptoBulk d + uptoBulkAll r
def uptoBulkEntries {H : Type} : List (Lit × DataW H) → Nat
  | [] => 0
  | x :: r => uptoBulkEntry x + uptoBulkEntries r
def uptoBulkEntry {H : Type} : Lit × DataW H → Nat
  | (.string bytes, d) => bytes.length + uptoBulk d + 1
  | (_, d) => uptoBulk d + 1
 end
def uptoSmall : (H : Type) → List (DataW H) → Bool := fun _ ds => decide (uptoBulkAll ds ≤ 1048576)
def OpenSpec.upto (s : _root_.Go.ChangeSpec) : _root_.Go.OpenSpec := { _root_.Go.OpenSpec.ofChange s with cond := some uptoSmall }

/-- 'ammonitelaw3.DeltaRuns', WHERE WHAT IT READS IS OF BULK AT MOST 1048576: true; the input reads as it did. -/
def deltaRunsUptoRow : OpenClaim := { program := "ytblkblnlcogfiaa", sum := "6dd2758f3ddb17067607be46bd63bef693591a2255d4ce8d1e5cfd3a87b9f49e", func := "ammonite/ammonitelaw3.DeltaRuns", spec := "deltaRuns", inPlace := ["internal/bytealg.IndexByteString"], apart := false, narrowed := true }
def DeltaRunsUptoSaid : Prop := deltaRunsUptoRow.holds Try.pinned (OpenSpec.upto deltaRunsSpec)

/-- 'ammonitelaw3.DeltaTells', WHERE WHAT IT READS IS OF BULK AT MOST 1048576: true; the input reads as it did. -/
def deltaTellsUptoRow : OpenClaim := { program := "ytblkblnlcogfiaa", sum := "6dd2758f3ddb17067607be46bd63bef693591a2255d4ce8d1e5cfd3a87b9f49e", func := "ammonite/ammonitelaw3.DeltaTells", spec := "deltaTells", inPlace := ["internal/bytealg.IndexByteString"], recurses := true, apart := false, narrowed := true }
def DeltaTellsUptoSaid : Prop := deltaTellsUptoRow.holds Try.pinned (OpenSpec.upto deltaTellsSpec)

/-- 'ammonitelaw3.DeltaMakes', WHERE WHAT IT READS IS OF BULK AT MOST 1048576: true; the input reads as it did. -/
def deltaMakesUptoRow : OpenClaim := { program := "ytblkblnlcogfiaa", sum := "6dd2758f3ddb17067607be46bd63bef693591a2255d4ce8d1e5cfd3a87b9f49e", func := "ammonite/ammonitelaw3.DeltaMakes", spec := "deltaMakes", inPlace := ["internal/bytealg.IndexByteString", "internal/bytealg.IndexString"], named := ["internal/bytealg.MaxLen"], apart := false, narrowed := true }
def DeltaMakesUptoSaid : Prop := deltaMakesUptoRow.holds Try.pinned (OpenSpec.upto deltaMakesSpec)

/-- 'ammonitelaw3.DeltaLimits', WHERE WHAT IT READS IS OF BULK AT MOST 1048576: true; the input reads as it did. -/
def deltaLimitsUptoRow : OpenClaim := { program := "ytblkblnlcogfiaa", sum := "6dd2758f3ddb17067607be46bd63bef693591a2255d4ce8d1e5cfd3a87b9f49e", func := "ammonite/ammonitelaw3.DeltaLimits", spec := "deltaLimits", inPlace := ["internal/bytealg.IndexByteString", "internal/bytealg.IndexString"], named := ["internal/bytealg.MaxLen"], apart := false, narrowed := true }
def DeltaLimitsUptoSaid : Prop := deltaLimitsUptoRow.holds Try.pinned (OpenSpec.upto deltaLimitsSpec)

/-- 'ammonitelaw3.DeltaParts', WHERE WHAT IT READS IS OF BULK AT MOST 1048576: true; the input reads as it did. -/
def deltaPartsUptoRow : OpenClaim := { program := "ytblkblnlcogfiaa", sum := "6dd2758f3ddb17067607be46bd63bef693591a2255d4ce8d1e5cfd3a87b9f49e", func := "ammonite/ammonitelaw3.DeltaParts", spec := "deltaParts", inPlace := ["internal/bytealg.IndexByteString"], apart := false, narrowed := true }
def DeltaPartsUptoSaid : Prop := deltaPartsUptoRow.holds Try.pinned (OpenSpec.upto deltaPartsSpec)

end Rows
end Go.Proofs.Ytblkblnlcogfiaa
