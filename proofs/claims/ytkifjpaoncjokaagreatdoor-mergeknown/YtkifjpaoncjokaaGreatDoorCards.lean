/-
  DERIVED. GIVEN WITH THE SEED: THE CARDS: each row of YtkifjpaoncjokaaGreatDoorRows.lean that lists a variable, with what it lists TIED to the program's text (the seventh form; the later family's looks); each row that meets fmt, with fmt's text TOLD by the authors' own Lean function (tested against real Go, not proved from fmt's source: count such statements apart). THE CARD IS WHAT COUNTS. Prove the row's statement (the work); the ties are given (YtkifjpaoncjokaaGreatDoorTie.lean); close each card by the builder's one call (the guide's Derived/Test/ToyasCard.lean, 'card_holds'). Laid BY PROGRAM, IN A SANDBOX (cutbox-door.mjs). By AI agents, Wed Nov 11 2026. No macro, syntax, notation, axiom, sorry.
-/
import Derived.Test.YtkifjpaoncjokaaGreatDoorRows
import GoSem.ClaimSeven
namespace Go.Proofs.YtkifjpaoncjokaaGreatDoor
namespace Rows

/-- THE TIED CARD OF 'cartouchelaw10.MergeKnown'. -/
def mergeKnownCard : Claim7 := { stood := { row := mergeKnownRow, standIns := [], harness := (true, "826b1e16e09f0c1ff74a7ceef8171ca18cd6afb2fbb9e34b2046b558a5fd1c05"), looks := false }, kinds := [], alts := [], laidByText := true, laidKinds := [.data, .pinned], laidTests := true, laidLooks := .later }
def MergeKnownCardSaid : Prop := Claim7.holds Tryz.pinned (.plain (OpenSpec.ofChange mergeKnownSpec)) mergeKnownCard

/-- THE TIED CARD OF 'cartouchelaw10.MergePaths'. -/
def mergePathsCard : Claim7 := { stood := { row := mergePathsRow, standIns := [], harness := (true, "826b1e16e09f0c1ff74a7ceef8171ca18cd6afb2fbb9e34b2046b558a5fd1c05"), looks := false }, kinds := [], alts := [], laidByText := true, laidKinds := [.data, .pinned], laidTests := true, laidLooks := .later }
def MergePathsCardSaid : Prop := Claim7.holds Tryz.pinned (.plain (OpenSpec.ofChange mergePathsSpec)) mergePathsCard

/-- THE SECOND FORM's CARD OF 'cartouchelaw10.MergeKnown'. -/
def mergeKnownUptoCard : Claim7 := { stood := { row := mergeKnownUptoRow, standIns := [], harness := (true, "826b1e16e09f0c1ff74a7ceef8171ca18cd6afb2fbb9e34b2046b558a5fd1c05"), looks := false }, kinds := [], alts := [], laidByText := true, laidKinds := [.data, .pinned], laidTests := true, laidLooks := .later }
def MergeKnownUptoCardSaid : Prop := Claim7.holds Tryz.pinned (.plain (OpenSpec.upto mergeKnownSpec)) mergeKnownUptoCard

/-- THE SECOND FORM's CARD OF 'cartouchelaw10.MergePaths'. -/
def mergePathsUptoCard : Claim7 := { stood := { row := mergePathsUptoRow, standIns := [], harness := (true, "826b1e16e09f0c1ff74a7ceef8171ca18cd6afb2fbb9e34b2046b558a5fd1c05"), looks := false }, kinds := [], alts := [], laidByText := true, laidKinds := [.data, .pinned], laidTests := true, laidLooks := .later }
def MergePathsUptoCardSaid : Prop := Claim7.holds Tryz.pinned (.plain (OpenSpec.upto mergePathsSpec)) mergePathsUptoCard
end Rows
end Go.Proofs.YtkifjpaoncjokaaGreatDoor
