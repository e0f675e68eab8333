/-
  DERIVED. GIVEN WITH THE SEED: THE CARDS: each row of YtnebbmeomjiogaaGreatDoorRows.lean that lists a variable, with what it lists TIED to the program's text (the seventh form; the later family's looks); each row that meets fmt, with fmt's text TOLD by the authors' own Lean function (tested against real Go, not proved from fmt's source: count such statements apart). THE CARD IS WHAT COUNTS. Prove the row's statement (the work); the ties are given (YtnebbmeomjiogaaGreatDoorTie.lean); close each card by the builder's one call (the guide's Derived/Test/ToyasCard.lean, 'card_holds'). Laid BY PROGRAM, IN A SANDBOX (cutbox-door.mjs). By AI agents, Wed Nov 11 2026. No macro, syntax, notation, axiom, sorry.
-/
import Derived.Test.YtnebbmeomjiogaaGreatDoorRows
import GoSem.ClaimSeven
namespace Go.Proofs.YtnebbmeomjiogaaGreatDoor
namespace Rows

/-- THE TIED CARD OF 'cartouchelaw10.MergeKnown'. -/
def mergeKnownCard : Claim7 := { stood := { row := mergeKnownRow, standIns := [], harness := (true, "eff31e600b7d8f2f6a9409221fe5bb084601153a8b2879e89d0b7c0dfc35875b"), looks := false }, kinds := [], alts := [], laidByText := true, laidKinds := [.data, .pinned], laidTests := true, laidLooks := .later }
def MergeKnownCardSaid : Prop := Claim7.holds Tryz.pinned (.plain (OpenSpec.ofChange mergeKnownSpec)) mergeKnownCard

/-- THE TIED CARD OF 'cartouchelaw10.MergeMerges'. -/
def mergeMergesCard : Claim7 := { stood := { row := mergeMergesRow, standIns := [], harness := (true, "eff31e600b7d8f2f6a9409221fe5bb084601153a8b2879e89d0b7c0dfc35875b"), looks := false }, kinds := [], alts := [], laidByText := true, laidKinds := [.data, .pinned], laidTests := true, laidLooks := .later }
def MergeMergesCardSaid : Prop := Claim7.holds Tryz.pinned (.plain (OpenSpec.ofChange mergeMergesSpec)) mergeMergesCard

/-- THE TIED CARD OF 'cartouchelaw10.MergeAlong'. -/
def mergeAlongCard : Claim7 := { stood := { row := mergeAlongRow, standIns := [], harness := (true, "eff31e600b7d8f2f6a9409221fe5bb084601153a8b2879e89d0b7c0dfc35875b"), looks := false }, kinds := [], alts := [], laidByText := true, laidKinds := [.data, .pinned], laidTests := true, laidLooks := .later }
def MergeAlongCardSaid : Prop := Claim7.holds Tryz.pinned (.plain (OpenSpec.ofChange mergeAlongSpec)) mergeAlongCard

/-- THE SECOND FORM's CARD OF 'cartouchelaw10.MergeKnown'. -/
def mergeKnownUptoCard : Claim7 := { stood := { row := mergeKnownUptoRow, standIns := [], harness := (true, "eff31e600b7d8f2f6a9409221fe5bb084601153a8b2879e89d0b7c0dfc35875b"), looks := false }, kinds := [], alts := [], laidByText := true, laidKinds := [.data, .pinned], laidTests := true, laidLooks := .later }
def MergeKnownUptoCardSaid : Prop := Claim7.holds Tryz.pinned (.plain (OpenSpec.upto mergeKnownSpec)) mergeKnownUptoCard

/-- THE SECOND FORM's CARD OF 'cartouchelaw10.MergeMerges'. -/
def mergeMergesUptoCard : Claim7 := { stood := { row := mergeMergesUptoRow, standIns := [], harness := (true, "eff31e600b7d8f2f6a9409221fe5bb084601153a8b2879e89d0b7c0dfc35875b"), looks := false }, kinds := [], alts := [], laidByText := true, laidKinds := [.data, .pinned], laidTests := true, laidLooks := .later }
def MergeMergesUptoCardSaid : Prop := Claim7.holds Tryz.pinned (.plain (OpenSpec.upto mergeMergesSpec)) mergeMergesUptoCard

/-- THE SECOND FORM's CARD OF 'cartouchelaw10.MergeAlong'. -/
def mergeAlongUptoCard : Claim7 := { stood := { row := mergeAlongUptoRow, standIns := [], harness := (true, "eff31e600b7d8f2f6a9409221fe5bb084601153a8b2879e89d0b7c0dfc35875b"), looks := false }, kinds := [], alts := [], laidByText := true, laidKinds := [.data, .pinned], laidTests := true, laidLooks := .later }
def MergeAlongUptoCardSaid : Prop := Claim7.holds Tryz.pinned (.plain (OpenSpec.upto mergeAlongSpec)) mergeAlongUptoCard
end Rows
end Go.Proofs.YtnebbmeomjiogaaGreatDoor
