/-
  DERIVED. GIVEN WITH THE SEED: THE CARDS: each row of YtmfaabedfdppcaaGreatDoorRows.lean that lists a variable, with what it lists TIED to the program's text (the seventh form; the later family's looks); each row that meets fmt, with fmt's text TOLD by the authors' own Lean function (tested against real Go, not proved from fmt's source: count such statements apart). THE CARD IS WHAT COUNTS. Prove the row's statement (the work); the ties are given (YtmfaabedfdppcaaGreatDoorTie.lean); close each card by the builder's one call (the guide's Derived/Test/ToyasCard.lean, 'card_holds'). Laid BY PROGRAM, IN A SANDBOX (cutbox-door.mjs). By AI agents, Wed Nov 11 2026. No macro, syntax, notation, axiom, sorry.
-/
import Derived.Test.YtmfaabedfdppcaaGreatDoorRows
import GoSem.ClaimSeven
namespace Go.Proofs.YtmfaabedfdppcaaGreatDoor
namespace Rows

/-- THE TIED CARD OF 'cartouchelaw10.MergeKnown'. -/
def mergeKnownCard : Claim7 := { stood := { row := mergeKnownRow, standIns := [], harness := (true, "a79f734d275aa9d725cbea7b52693b76183f7e5623be183851de493ff82b8ae9"), looks := false }, kinds := [], alts := [], laidByText := true, laidKinds := [.data, .pinned], laidTests := true, laidLooks := .later }
def MergeKnownCardSaid : Prop := Claim7.holds Tryz.pinned (.plain (OpenSpec.ofChange mergeKnownSpec)) mergeKnownCard

/-- THE TIED CARD OF 'cartouchelaw10.MergeParts'. -/
def mergePartsCard : Claim7 := { stood := { row := mergePartsRow, standIns := [], harness := (true, "a79f734d275aa9d725cbea7b52693b76183f7e5623be183851de493ff82b8ae9"), looks := false }, kinds := [], alts := [], laidByText := true, laidKinds := [.data, .pinned], laidTests := true, laidLooks := .later }
def MergePartsCardSaid : Prop := Claim7.holds Tryz.pinned (.plain (OpenSpec.ofChange mergePartsSpec)) mergePartsCard

/-- THE TIED CARD OF 'cartouchelaw10.MergePaths'. -/
def mergePathsCard : Claim7 := { stood := { row := mergePathsRow, standIns := [], harness := (true, "a79f734d275aa9d725cbea7b52693b76183f7e5623be183851de493ff82b8ae9"), looks := false }, kinds := [], alts := [], laidByText := true, laidKinds := [.data, .pinned], laidTests := true, laidLooks := .later }
def MergePathsCardSaid : Prop := Claim7.holds Tryz.pinned (.plain (OpenSpec.ofChange mergePathsSpec)) mergePathsCard

/-- THE SECOND FORM's CARD OF 'cartouchelaw10.MergeKnown'. -/
def mergeKnownUptoCard : Claim7 := { stood := { row := mergeKnownUptoRow, standIns := [], harness := (true, "a79f734d275aa9d725cbea7b52693b76183f7e5623be183851de493ff82b8ae9"), looks := false }, kinds := [], alts := [], laidByText := true, laidKinds := [.data, .pinned], laidTests := true, laidLooks := .later }
def MergeKnownUptoCardSaid : Prop := Claim7.holds Tryz.pinned (.plain (OpenSpec.upto mergeKnownSpec)) mergeKnownUptoCard

/-- THE SECOND FORM's CARD OF 'cartouchelaw10.MergeParts'. -/
def mergePartsUptoCard : Claim7 := { stood := { row := mergePartsUptoRow, standIns := [], harness := (true, "a79f734d275aa9d725cbea7b52693b76183f7e5623be183851de493ff82b8ae9"), looks := false }, kinds := [], alts := [], laidByText := true, laidKinds := [.data, .pinned], laidTests := true, laidLooks := .later }
def MergePartsUptoCardSaid : Prop := Claim7.holds Tryz.pinned (.plain (OpenSpec.upto mergePartsSpec)) mergePartsUptoCard

/-- THE SECOND FORM's CARD OF 'cartouchelaw10.MergePaths'. -/
def mergePathsUptoCard : Claim7 := { stood := { row := mergePathsUptoRow, standIns := [], harness := (true, "a79f734d275aa9d725cbea7b52693b76183f7e5623be183851de493ff82b8ae9"), looks := false }, kinds := [], alts := [], laidByText := true, laidKinds := [.data, .pinned], laidTests := true, laidLooks := .later }
def MergePathsUptoCardSaid : Prop := Claim7.holds Tryz.pinned (.plain (OpenSpec.upto mergePathsSpec)) mergePathsUptoCard
end Rows
end Go.Proofs.YtmfaabedfdppcaaGreatDoor
