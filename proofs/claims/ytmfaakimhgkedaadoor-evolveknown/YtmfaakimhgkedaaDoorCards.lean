/-
  DERIVED. GIVEN WITH THE SEED: THE CARDS: each row of YtmfaakimhgkedaaDoorRows.lean that lists a variable, with what it lists TIED to the program's text (the seventh form; the later family's looks); each row that meets fmt, with fmt's text TOLD by the authors' own Lean function (tested against real Go, not proved from fmt's source: count such statements apart). THE CARD IS WHAT COUNTS. Prove the row's statement (the work); the ties are given (YtmfaakimhgkedaaDoorTie.lean); close each card by the builder's one call (the guide's Derived/Test/ToyasCard.lean, 'card_holds'). Laid BY PROGRAM, IN A SANDBOX (cutbox-door.mjs). By AI agents, Wed Nov 11 2026. No macro, syntax, notation, axiom, sorry.
-/
import Derived.Test.YtmfaakimhgkedaaDoorRows
import GoSem.ClaimSeven
namespace Go.Proofs.YtmfaakimhgkedaaDoor
namespace Rows

/-- THE TIED CARD OF 'cartouchelaw18.EvolveKnown'. -/
def evolveKnownCard : Claim7 := { stood := { row := evolveKnownRow, standIns := [], harness := (true, "568e26058195b349693863816e05b1b61de880179bb7b00687218b3566f7fe1a"), looks := false }, kinds := [], alts := [], laidByText := true, laidKinds := [.data, .pinned], laidTests := true, laidLooks := .later }
def EvolveKnownCardSaid : Prop := Claim7.holds Tryd.pinned (.plain (OpenSpec.ofChange evolveKnownSpec)) evolveKnownCard

/-- THE TIED CARD OF 'cartouchelaw18.EvolveChains'. -/
def evolveChainsCard : Claim7 := { stood := { row := evolveChainsRow, standIns := [], harness := (true, "568e26058195b349693863816e05b1b61de880179bb7b00687218b3566f7fe1a"), looks := false }, kinds := [], alts := [], laidByText := true, laidKinds := [.data, .pinned], laidTests := true, laidLooks := .later }
def EvolveChainsCardSaid : Prop := Claim7.holds Tryd.pinned (.plain (OpenSpec.ofChange evolveChainsSpec)) evolveChainsCard

/-- THE SECOND FORM's CARD OF 'cartouchelaw18.EvolveKnown'. -/
def evolveKnownUptoCard : Claim7 := { stood := { row := evolveKnownUptoRow, standIns := [], harness := (true, "568e26058195b349693863816e05b1b61de880179bb7b00687218b3566f7fe1a"), looks := false }, kinds := [], alts := [], laidByText := true, laidKinds := [.data, .pinned], laidTests := true, laidLooks := .later }
def EvolveKnownUptoCardSaid : Prop := Claim7.holds Tryd.pinned (.plain (OpenSpec.upto evolveKnownSpec)) evolveKnownUptoCard

/-- THE SECOND FORM's CARD OF 'cartouchelaw18.EvolveChains'. -/
def evolveChainsUptoCard : Claim7 := { stood := { row := evolveChainsUptoRow, standIns := [], harness := (true, "568e26058195b349693863816e05b1b61de880179bb7b00687218b3566f7fe1a"), looks := false }, kinds := [], alts := [], laidByText := true, laidKinds := [.data, .pinned], laidTests := true, laidLooks := .later }
def EvolveChainsUptoCardSaid : Prop := Claim7.holds Tryd.pinned (.plain (OpenSpec.upto evolveChainsSpec)) evolveChainsUptoCard
end Rows
end Go.Proofs.YtmfaakimhgkedaaDoor
