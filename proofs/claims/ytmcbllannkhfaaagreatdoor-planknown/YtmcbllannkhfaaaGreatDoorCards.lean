/-
  DERIVED. GIVEN WITH THE SEED: THE CARDS: each row of YtmcbllannkhfaaaGreatDoorRows.lean that lists a variable, with what it lists TIED to the program's text (the seventh form; the later family's looks); each row that meets fmt, with fmt's text TOLD by the authors' own Lean function (tested against real Go, not proved from fmt's source: count such statements apart). THE CARD IS WHAT COUNTS. Prove the row's statement (the work); the ties are given (YtmcbllannkhfaaaGreatDoorTie.lean); close each card by the builder's one call (the guide's Derived/Test/ToyasCard.lean, 'card_holds'). Laid BY PROGRAM, IN A SANDBOX (cutbox-door.mjs). By AI agents, Wed Nov 11 2026. No macro, syntax, notation, axiom, sorry.
-/
import Derived.Test.YtmcbllannkhfaaaGreatDoorRows
import GoSem.ClaimSeven
namespace Go.Proofs.YtmcbllannkhfaaaGreatDoor
namespace Rows

/-- THE TIED CARD OF 'cartouchelaw13.PlanKnown'. -/
def planKnownCard : Claim7 := { stood := { row := planKnownRow, standIns := [], harness := (true, "0fbc91c500be8fbbc23fb31aec26285c54d510cfd11af6deedac2a0c37b8560d"), looks := false }, kinds := [], alts := [], laidByText := true, laidKinds := [.data, .pinned], laidTests := true, laidLooks := .later }
def PlanKnownCardSaid : Prop := Claim7.holds Tryz.pinned (.plain (OpenSpec.ofChange planKnownSpec)) planKnownCard

/-- THE TIED CARD OF 'cartouchelaw13.PlanLowers'. -/
def planLowersCard : Claim7 := { stood := { row := planLowersRow, standIns := [], harness := (true, "0fbc91c500be8fbbc23fb31aec26285c54d510cfd11af6deedac2a0c37b8560d"), looks := false }, kinds := [], alts := [], laidByText := true, laidKinds := [.data, .pinned], laidTests := true, laidLooks := .later }
def PlanLowersCardSaid : Prop := Claim7.holds Tryz.pinned (.plain (OpenSpec.ofChange planLowersSpec)) planLowersCard

/-- THE TIED CARD OF 'cartouchelaw13.PlanValid'. -/
def planValidCard : Claim7 := { stood := { row := planValidRow, standIns := [], harness := (true, "0fbc91c500be8fbbc23fb31aec26285c54d510cfd11af6deedac2a0c37b8560d"), looks := false }, kinds := [], alts := [], laidByText := true, laidKinds := [.data, .pinned], laidTests := true, laidLooks := .later }
def PlanValidCardSaid : Prop := Claim7.holds Tryz.pinned (.plain (OpenSpec.ofChange planValidSpec)) planValidCard

/-- THE TIED CARD OF 'cartouchelaw13.PlanAlong'. -/
def planAlongCard : Claim7 := { stood := { row := planAlongRow, standIns := [], harness := (true, "0fbc91c500be8fbbc23fb31aec26285c54d510cfd11af6deedac2a0c37b8560d"), looks := false }, kinds := [], alts := [], laidByText := true, laidKinds := [.data, .pinned], laidTests := true, laidLooks := .later }
def PlanAlongCardSaid : Prop := Claim7.holds Tryz.pinned (.plain (OpenSpec.ofChange planAlongSpec)) planAlongCard

/-- THE TIED CARD OF 'cartouchelaw13.PlanShaped'. -/
def planShapedCard : Claim7 := { stood := { row := planShapedRow, standIns := [], harness := (true, "0fbc91c500be8fbbc23fb31aec26285c54d510cfd11af6deedac2a0c37b8560d"), looks := false }, kinds := [], alts := [], laidByText := true, laidKinds := [.data, .pinned], laidTests := true, laidLooks := .later }
def PlanShapedCardSaid : Prop := Claim7.holds Tryz.pinned (.plain (OpenSpec.ofChange planShapedSpec)) planShapedCard

/-- THE TIED CARD OF 'cartouchelaw13.PlanKept'. -/
def planKeptCard : Claim7 := { stood := { row := planKeptRow, standIns := [], harness := (true, "0fbc91c500be8fbbc23fb31aec26285c54d510cfd11af6deedac2a0c37b8560d"), looks := false }, kinds := [], alts := [], laidByText := true, laidKinds := [.data, .pinned], laidTests := true, laidLooks := .later }
def PlanKeptCardSaid : Prop := Claim7.holds Tryz.pinned (.plain (OpenSpec.ofChange planKeptSpec)) planKeptCard

/-- THE SECOND FORM's CARD OF 'cartouchelaw13.PlanKnown'. -/
def planKnownUptoCard : Claim7 := { stood := { row := planKnownUptoRow, standIns := [], harness := (true, "0fbc91c500be8fbbc23fb31aec26285c54d510cfd11af6deedac2a0c37b8560d"), looks := false }, kinds := [], alts := [], laidByText := true, laidKinds := [.data, .pinned], laidTests := true, laidLooks := .later }
def PlanKnownUptoCardSaid : Prop := Claim7.holds Tryz.pinned (.plain (OpenSpec.upto planKnownSpec)) planKnownUptoCard

/-- THE SECOND FORM's CARD OF 'cartouchelaw13.PlanLowers'. -/
def planLowersUptoCard : Claim7 := { stood := { row := planLowersUptoRow, standIns := [], harness := (true, "0fbc91c500be8fbbc23fb31aec26285c54d510cfd11af6deedac2a0c37b8560d"), looks := false }, kinds := [], alts := [], laidByText := true, laidKinds := [.data, .pinned], laidTests := true, laidLooks := .later }
def PlanLowersUptoCardSaid : Prop := Claim7.holds Tryz.pinned (.plain (OpenSpec.upto planLowersSpec)) planLowersUptoCard

/-- THE SECOND FORM's CARD OF 'cartouchelaw13.PlanValid'. -/
def planValidUptoCard : Claim7 := { stood := { row := planValidUptoRow, standIns := [], harness := (true, "0fbc91c500be8fbbc23fb31aec26285c54d510cfd11af6deedac2a0c37b8560d"), looks := false }, kinds := [], alts := [], laidByText := true, laidKinds := [.data, .pinned], laidTests := true, laidLooks := .later }
def PlanValidUptoCardSaid : Prop := Claim7.holds Tryz.pinned (.plain (OpenSpec.upto planValidSpec)) planValidUptoCard

/-- THE SECOND FORM's CARD OF 'cartouchelaw13.PlanAlong'. -/
def planAlongUptoCard : Claim7 := { stood := { row := planAlongUptoRow, standIns := [], harness := (true, "0fbc91c500be8fbbc23fb31aec26285c54d510cfd11af6deedac2a0c37b8560d"), looks := false }, kinds := [], alts := [], laidByText := true, laidKinds := [.data, .pinned], laidTests := true, laidLooks := .later }
def PlanAlongUptoCardSaid : Prop := Claim7.holds Tryz.pinned (.plain (OpenSpec.upto planAlongSpec)) planAlongUptoCard

/-- THE SECOND FORM's CARD OF 'cartouchelaw13.PlanShaped'. -/
def planShapedUptoCard : Claim7 := { stood := { row := planShapedUptoRow, standIns := [], harness := (true, "0fbc91c500be8fbbc23fb31aec26285c54d510cfd11af6deedac2a0c37b8560d"), looks := false }, kinds := [], alts := [], laidByText := true, laidKinds := [.data, .pinned], laidTests := true, laidLooks := .later }
def PlanShapedUptoCardSaid : Prop := Claim7.holds Tryz.pinned (.plain (OpenSpec.upto planShapedSpec)) planShapedUptoCard

/-- THE SECOND FORM's CARD OF 'cartouchelaw13.PlanKept'. -/
def planKeptUptoCard : Claim7 := { stood := { row := planKeptUptoRow, standIns := [], harness := (true, "0fbc91c500be8fbbc23fb31aec26285c54d510cfd11af6deedac2a0c37b8560d"), looks := false }, kinds := [], alts := [], laidByText := true, laidKinds := [.data, .pinned], laidTests := true, laidLooks := .later }
def PlanKeptUptoCardSaid : Prop := Claim7.holds Tryz.pinned (.plain (OpenSpec.upto planKeptSpec)) planKeptUptoCard
end Rows
end Go.Proofs.YtmcbllannkhfaaaGreatDoor
