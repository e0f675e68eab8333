/-
  DERIVED. GIVEN WITH THE SEED: THE CARDS: each row of YtmjgonckadcbkaaGreatDoorRows.lean that lists a variable, with what it lists TIED to the program's text (the seventh form; the later family's looks); each row that meets fmt, with fmt's text TOLD by the authors' own Lean function (tested against real Go, not proved from fmt's source: count such statements apart). THE CARD IS WHAT COUNTS. Prove the row's statement (the work); the ties are given (YtmjgonckadcbkaaGreatDoorTie.lean); close each card by the builder's one call (the guide's Derived/Test/ToyasCard.lean, 'card_holds'). Laid BY PROGRAM, IN A SANDBOX (cutbox-door.mjs). By AI agents, Wed Nov 11 2026. No macro, syntax, notation, axiom, sorry.
-/
import Derived.Test.YtmjgonckadcbkaaGreatDoorRows
import GoSem.ClaimSeven
namespace Go.Proofs.YtmjgonckadcbkaaGreatDoor
namespace Rows

/-- THE TIED CARD OF 'cartouchelaw18.EvolveDiffs'. -/
def evolveDiffsCard : Claim7 := { stood := { row := evolveDiffsRow, standIns := [], harness := (true, "87629c81ba9b2c499df3b3b56bd1e3344c1c133fca774f5f82653d3a7b476c5b"), looks := false }, kinds := [], alts := [], laidByText := true, laidKinds := [.data, .pinned], laidTests := true, laidLooks := .later }
def EvolveDiffsCardSaid : Prop := Claim7.holds Tryz.pinned (.plain (OpenSpec.ofChange evolveDiffsSpec)) evolveDiffsCard

/-- THE TIED CARD OF 'cartouchelaw18.EvolveFresh'. -/
def evolveFreshCard : Claim7 := { stood := { row := evolveFreshRow, standIns := [], harness := (true, "87629c81ba9b2c499df3b3b56bd1e3344c1c133fca774f5f82653d3a7b476c5b"), looks := false }, kinds := [], alts := [], laidByText := true, laidKinds := [.data, .pinned], laidTests := true, laidLooks := .later }
def EvolveFreshCardSaid : Prop := Claim7.holds Tryz.pinned (.plain (OpenSpec.ofChange evolveFreshSpec)) evolveFreshCard

/-- THE TIED CARD OF 'cartouchelaw18.EvolveAdditive'. -/
def evolveAdditiveCard : Claim7 := { stood := { row := evolveAdditiveRow, standIns := [], harness := (true, "87629c81ba9b2c499df3b3b56bd1e3344c1c133fca774f5f82653d3a7b476c5b"), looks := false }, kinds := [], alts := [], laidByText := true, laidKinds := [.data, .pinned], laidTests := true, laidLooks := .later }
def EvolveAdditiveCardSaid : Prop := Claim7.holds Tryz.pinned (.plain (OpenSpec.ofChange evolveAdditiveSpec)) evolveAdditiveCard

/-- THE SECOND FORM's CARD OF 'cartouchelaw18.EvolveDiffs'. -/
def evolveDiffsUptoCard : Claim7 := { stood := { row := evolveDiffsUptoRow, standIns := [], harness := (true, "87629c81ba9b2c499df3b3b56bd1e3344c1c133fca774f5f82653d3a7b476c5b"), looks := false }, kinds := [], alts := [], laidByText := true, laidKinds := [.data, .pinned], laidTests := true, laidLooks := .later }
def EvolveDiffsUptoCardSaid : Prop := Claim7.holds Tryz.pinned (.plain (OpenSpec.upto evolveDiffsSpec)) evolveDiffsUptoCard

/-- THE SECOND FORM's CARD OF 'cartouchelaw18.EvolveFresh'. -/
def evolveFreshUptoCard : Claim7 := { stood := { row := evolveFreshUptoRow, standIns := [], harness := (true, "87629c81ba9b2c499df3b3b56bd1e3344c1c133fca774f5f82653d3a7b476c5b"), looks := false }, kinds := [], alts := [], laidByText := true, laidKinds := [.data, .pinned], laidTests := true, laidLooks := .later }
def EvolveFreshUptoCardSaid : Prop := Claim7.holds Tryz.pinned (.plain (OpenSpec.upto evolveFreshSpec)) evolveFreshUptoCard

/-- THE SECOND FORM's CARD OF 'cartouchelaw18.EvolveAdditive'. -/
def evolveAdditiveUptoCard : Claim7 := { stood := { row := evolveAdditiveUptoRow, standIns := [], harness := (true, "87629c81ba9b2c499df3b3b56bd1e3344c1c133fca774f5f82653d3a7b476c5b"), looks := false }, kinds := [], alts := [], laidByText := true, laidKinds := [.data, .pinned], laidTests := true, laidLooks := .later }
def EvolveAdditiveUptoCardSaid : Prop := Claim7.holds Tryz.pinned (.plain (OpenSpec.upto evolveAdditiveSpec)) evolveAdditiveUptoCard
end Rows
end Go.Proofs.YtmjgonckadcbkaaGreatDoor
