/-
  DERIVED. GIVEN WITH THE SEED: THE CARDS: each row of YtdhkbdngmejklaaGreatDoorRows.lean that lists a variable, with what it lists TIED to the program's text (the seventh form; the later family's looks); each row that meets fmt, with fmt's text TOLD by the authors' own Lean function (tested against real Go, not proved from fmt's source: count such statements apart). THE CARD IS WHAT COUNTS. Prove the row's statement (the work); the ties are given (YtdhkbdngmejklaaGreatDoorTie.lean); close each card by the builder's one call (the guide's Derived/Test/ToyasCard.lean, 'card_holds'). Laid BY PROGRAM, IN A SANDBOX (cutbox-door.mjs). By AI agents, Wed Nov 11 2026. No macro, syntax, notation, axiom, sorry.
-/
import Derived.Test.YtdhkbdngmejklaaGreatDoorRows
import GoSem.ClaimSeven
namespace Go.Proofs.YtdhkbdngmejklaaGreatDoor
namespace Rows

/-- THE TIED CARD OF 'cartouchelaw13.PlanValid'. -/
def planValidCard : Claim7 := { stood := { row := planValidRow, standIns := [], harness := (true, "cff780386e9718046da998d251326237f18d083f053833985cf4811dd23dc4bc"), looks := false }, kinds := [], alts := [], laidByText := true, laidKinds := [.data, .pinned], laidTests := true, laidLooks := .later }
def PlanValidCardSaid : Prop := Claim7.holds Tryz.pinned (.plain (OpenSpec.ofChange planValidSpec)) planValidCard

/-- THE SECOND FORM's CARD OF 'cartouchelaw13.PlanValid'. -/
def planValidUptoCard : Claim7 := { stood := { row := planValidUptoRow, standIns := [], harness := (true, "cff780386e9718046da998d251326237f18d083f053833985cf4811dd23dc4bc"), looks := false }, kinds := [], alts := [], laidByText := true, laidKinds := [.data, .pinned], laidTests := true, laidLooks := .later }
def PlanValidUptoCardSaid : Prop := Claim7.holds Tryz.pinned (.plain (OpenSpec.upto planValidSpec)) planValidUptoCard
end Rows
end Go.Proofs.YtdhkbdngmejklaaGreatDoor
