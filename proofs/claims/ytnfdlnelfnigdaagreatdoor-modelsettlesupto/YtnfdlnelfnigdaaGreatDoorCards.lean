/-
  DERIVED. GIVEN WITH THE SEED: THE CARDS: each row of YtnfdlnelfnigdaaGreatDoorRows.lean that lists a variable, with what it lists TIED to the program's text (the seventh form; the later family's looks); each row that meets fmt, with fmt's text TOLD by the authors' own Lean function (tested against real Go, not proved from fmt's source: count such statements apart). THE CARD IS WHAT COUNTS. Prove the row's statement (the work); the ties are given (YtnfdlnelfnigdaaGreatDoorTie.lean); close each card by the builder's one call (the guide's Derived/Test/ToyasCard.lean, 'card_holds'). Laid BY PROGRAM, IN A SANDBOX (cutbox-door.mjs). By AI agents, Wed Nov 11 2026. No macro, syntax, notation, axiom, sorry.
-/
import Derived.Test.YtnfdlnelfnigdaaGreatDoorRows
import GoSem.ClaimSeven
namespace Go.Proofs.YtnfdlnelfnigdaaGreatDoor
namespace Rows

/-- THE TIED CARD OF 'cartouchelaw8.ModelKnown'. -/
def modelKnownCard : Claim7 := { stood := { row := modelKnownRow, standIns := [], harness := (true, "8b12d7ce241b94b2e521ea6db4d33fbafb518814f64fc62496dc6f32d27cb796"), looks := false }, kinds := [], alts := [], laidByText := true, laidKinds := [.data, .pinned], laidTests := true, laidLooks := .later }
def ModelKnownCardSaid : Prop := Claim7.holds Tryz.pinned (.plain (OpenSpec.ofChange modelKnownSpec)) modelKnownCard

/-- THE TIED CARD OF 'cartouchelaw8.ModelTyped'. -/
def modelTypedCard : Claim7 := { stood := { row := modelTypedRow, standIns := [], harness := (true, "8b12d7ce241b94b2e521ea6db4d33fbafb518814f64fc62496dc6f32d27cb796"), looks := false }, kinds := [], alts := [], laidByText := true, laidKinds := [.data, .pinned], laidTests := true, laidLooks := .later }
def ModelTypedCardSaid : Prop := Claim7.holds Tryz.pinned (.plain (OpenSpec.ofChange modelTypedSpec)) modelTypedCard

/-- THE TIED CARD OF 'cartouchelaw8.ModelSettles'. -/
def modelSettlesCard : Claim7 := { stood := { row := modelSettlesRow, standIns := [], harness := (true, "8b12d7ce241b94b2e521ea6db4d33fbafb518814f64fc62496dc6f32d27cb796"), looks := false }, kinds := [], alts := [], laidByText := true, laidKinds := [.data, .pinned], laidTests := true, laidLooks := .later }
def ModelSettlesCardSaid : Prop := Claim7.holds Tryz.pinned (.plain (OpenSpec.ofChange modelSettlesSpec)) modelSettlesCard

/-- THE TIED CARD OF 'cartouchelaw8.ModelAlong'. -/
def modelAlongCard : Claim7 := { stood := { row := modelAlongRow, standIns := [], harness := (true, "8b12d7ce241b94b2e521ea6db4d33fbafb518814f64fc62496dc6f32d27cb796"), looks := false }, kinds := [], alts := [], laidByText := true, laidKinds := [.data, .pinned], laidTests := true, laidLooks := .later }
def ModelAlongCardSaid : Prop := Claim7.holds Tryz.pinned (.plain (OpenSpec.ofChange modelAlongSpec)) modelAlongCard

/-- THE SECOND FORM's CARD OF 'cartouchelaw8.ModelKnown'. -/
def modelKnownUptoCard : Claim7 := { stood := { row := modelKnownUptoRow, standIns := [], harness := (true, "8b12d7ce241b94b2e521ea6db4d33fbafb518814f64fc62496dc6f32d27cb796"), looks := false }, kinds := [], alts := [], laidByText := true, laidKinds := [.data, .pinned], laidTests := true, laidLooks := .later }
def ModelKnownUptoCardSaid : Prop := Claim7.holds Tryz.pinned (.plain (OpenSpec.upto modelKnownSpec)) modelKnownUptoCard

/-- THE SECOND FORM's CARD OF 'cartouchelaw8.ModelTyped'. -/
def modelTypedUptoCard : Claim7 := { stood := { row := modelTypedUptoRow, standIns := [], harness := (true, "8b12d7ce241b94b2e521ea6db4d33fbafb518814f64fc62496dc6f32d27cb796"), looks := false }, kinds := [], alts := [], laidByText := true, laidKinds := [.data, .pinned], laidTests := true, laidLooks := .later }
def ModelTypedUptoCardSaid : Prop := Claim7.holds Tryz.pinned (.plain (OpenSpec.upto modelTypedSpec)) modelTypedUptoCard

/-- THE SECOND FORM's CARD OF 'cartouchelaw8.ModelSettles'. -/
def modelSettlesUptoCard : Claim7 := { stood := { row := modelSettlesUptoRow, standIns := [], harness := (true, "8b12d7ce241b94b2e521ea6db4d33fbafb518814f64fc62496dc6f32d27cb796"), looks := false }, kinds := [], alts := [], laidByText := true, laidKinds := [.data, .pinned], laidTests := true, laidLooks := .later }
def ModelSettlesUptoCardSaid : Prop := Claim7.holds Tryz.pinned (.plain (OpenSpec.upto modelSettlesSpec)) modelSettlesUptoCard

/-- THE SECOND FORM's CARD OF 'cartouchelaw8.ModelAlong'. -/
def modelAlongUptoCard : Claim7 := { stood := { row := modelAlongUptoRow, standIns := [], harness := (true, "8b12d7ce241b94b2e521ea6db4d33fbafb518814f64fc62496dc6f32d27cb796"), looks := false }, kinds := [], alts := [], laidByText := true, laidKinds := [.data, .pinned], laidTests := true, laidLooks := .later }
def ModelAlongUptoCardSaid : Prop := Claim7.holds Tryz.pinned (.plain (OpenSpec.upto modelAlongSpec)) modelAlongUptoCard
end Rows
end Go.Proofs.YtnfdlnelfnigdaaGreatDoor
