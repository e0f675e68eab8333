/-
  DERIVED. GIVEN WITH THE SEED: THE CARDS: each row of YtbopddnekoocoaaGreatDoorRows.lean that lists a variable, with what it lists TIED to the program's text (the seventh form; the later family's looks); each row that meets fmt, with fmt's text TOLD by the authors' own Lean function (tested against real Go, not proved from fmt's source: count such statements apart). THE CARD IS WHAT COUNTS. Prove the row's statement (the work); the ties are given (YtbopddnekoocoaaGreatDoorTie.lean); close each card by the builder's one call (the guide's Derived/Test/ToyasCard.lean, 'card_holds'). Laid BY PROGRAM, IN A SANDBOX (cutbox-door.mjs). By AI agents, Wed Nov 11 2026. No macro, syntax, notation, axiom, sorry.
-/
import Derived.Test.YtbopddnekoocoaaGreatDoorRows
import GoSem.ClaimSeven
namespace Go.Proofs.YtbopddnekoocoaaGreatDoor
namespace Rows

/-- THE TIED CARD OF 'cartouchelaw13.PlanLowers'. -/
def planLowersCard : Claim7 := { stood := { row := planLowersRow, standIns := [], harness := (true, "7c9681da3dbcf2518277e100ff20cafcd5544a55afd51218196d55873deea8c6"), looks := false }, kinds := [], alts := [], laidByText := true, laidKinds := [.data, .pinned], laidTests := true, laidLooks := .later }
def PlanLowersCardSaid : Prop := Claim7.holds Tryz.pinned (.plain (OpenSpec.ofChange planLowersSpec)) planLowersCard

/-- THE TIED CARD OF 'cartouchelaw13.PlanValid'. -/
def planValidCard : Claim7 := { stood := { row := planValidRow, standIns := [], harness := (true, "7c9681da3dbcf2518277e100ff20cafcd5544a55afd51218196d55873deea8c6"), looks := false }, kinds := [], alts := [], laidByText := true, laidKinds := [.data, .pinned], laidTests := true, laidLooks := .later }
def PlanValidCardSaid : Prop := Claim7.holds Tryz.pinned (.plain (OpenSpec.ofChange planValidSpec)) planValidCard

/-- THE TIED CARD OF 'cartouchelaw13.PlanAlong'. -/
def planAlongCard : Claim7 := { stood := { row := planAlongRow, standIns := [], harness := (true, "7c9681da3dbcf2518277e100ff20cafcd5544a55afd51218196d55873deea8c6"), looks := false }, kinds := [], alts := [], laidByText := true, laidKinds := [.data, .pinned], laidTests := true, laidLooks := .later }
def PlanAlongCardSaid : Prop := Claim7.holds Tryz.pinned (.plain (OpenSpec.ofChange planAlongSpec)) planAlongCard

/-- THE SECOND FORM's CARD OF 'cartouchelaw13.PlanLowers'. -/
def planLowersUptoCard : Claim7 := { stood := { row := planLowersUptoRow, standIns := [], harness := (true, "7c9681da3dbcf2518277e100ff20cafcd5544a55afd51218196d55873deea8c6"), looks := false }, kinds := [], alts := [], laidByText := true, laidKinds := [.data, .pinned], laidTests := true, laidLooks := .later }
def PlanLowersUptoCardSaid : Prop := Claim7.holds Tryz.pinned (.plain (OpenSpec.upto planLowersSpec)) planLowersUptoCard

/-- THE SECOND FORM's CARD OF 'cartouchelaw13.PlanValid'. -/
def planValidUptoCard : Claim7 := { stood := { row := planValidUptoRow, standIns := [], harness := (true, "7c9681da3dbcf2518277e100ff20cafcd5544a55afd51218196d55873deea8c6"), looks := false }, kinds := [], alts := [], laidByText := true, laidKinds := [.data, .pinned], laidTests := true, laidLooks := .later }
def PlanValidUptoCardSaid : Prop := Claim7.holds Tryz.pinned (.plain (OpenSpec.upto planValidSpec)) planValidUptoCard

/-- THE SECOND FORM's CARD OF 'cartouchelaw13.PlanAlong'. -/
def planAlongUptoCard : Claim7 := { stood := { row := planAlongUptoRow, standIns := [], harness := (true, "7c9681da3dbcf2518277e100ff20cafcd5544a55afd51218196d55873deea8c6"), looks := false }, kinds := [], alts := [], laidByText := true, laidKinds := [.data, .pinned], laidTests := true, laidLooks := .later }
def PlanAlongUptoCardSaid : Prop := Claim7.holds Tryz.pinned (.plain (OpenSpec.upto planAlongSpec)) planAlongUptoCard
end Rows
end Go.Proofs.YtbopddnekoocoaaGreatDoor
