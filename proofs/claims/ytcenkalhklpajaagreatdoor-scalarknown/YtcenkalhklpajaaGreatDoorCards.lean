/-
  DERIVED. GIVEN WITH THE SEED: THE CARDS: each row of YtcenkalhklpajaaGreatDoorRows.lean that lists a variable, with what it lists TIED to the program's text (the seventh form; the later family's looks); each row that meets fmt, with fmt's text TOLD by the authors' own Lean function (tested against real Go, not proved from fmt's source: count such statements apart). THE CARD IS WHAT COUNTS. Prove the row's statement (the work); the ties are given (YtcenkalhklpajaaGreatDoorTie.lean); close each card by the builder's one call (the guide's Derived/Test/ToyasCard.lean, 'card_holds'). Laid BY PROGRAM, IN A SANDBOX (cutbox-door.mjs). By AI agents, Wed Nov 11 2026. No macro, syntax, notation, axiom, sorry.
-/
import Derived.Test.YtcenkalhklpajaaGreatDoorRows
import GoSem.ClaimSeven
namespace Go.Proofs.YtcenkalhklpajaaGreatDoor
namespace Rows

/-- THE TIED CARD OF 'cartouchelaw3.ScalarKnown'. -/
def scalarKnownCard : Claim7 := { stood := { row := scalarKnownRow, standIns := [], harness := (true, "9d2ab47fae3933988709b93e4b42adb511b6e18fcc92c6fe63da6b315bca6c9c"), looks := true }, kinds := [], alts := [], laidByText := true, laidKinds := [.data, .data, .data, .sentinel, .sentinel], laidTests := true, laidLooks := .later }
def ScalarKnownCardSaid : Prop := Claim7.holds Tryz.pinned (.plain (OpenSpec.ofChange scalarKnownSpec)) scalarKnownCard

/-- THE TIED CARD OF 'cartouchelaw3.ScalarTexts'. -/
def scalarTextsCard : Claim7 := { stood := { row := scalarTextsRow, standIns := [], harness := (true, "9d2ab47fae3933988709b93e4b42adb511b6e18fcc92c6fe63da6b315bca6c9c"), looks := true }, kinds := [], alts := [], laidByText := true, laidKinds := [.data, .data, .data, .sentinel, .sentinel], laidTests := true, laidLooks := .later }
def ScalarTextsCardSaid : Prop := Claim7.holds Tryz.pinned (.plain (OpenSpec.ofChange scalarTextsSpec)) scalarTextsCard

/-- THE TIED CARD OF 'cartouchelaw3.ScalarBack'. -/
def scalarBackCard : Claim7 := { stood := { row := scalarBackRow, standIns := [], harness := (true, "9d2ab47fae3933988709b93e4b42adb511b6e18fcc92c6fe63da6b315bca6c9c"), looks := true }, kinds := [], alts := [], laidByText := true, laidKinds := [.data, .data, .data, .sentinel, .sentinel], laidTests := true, laidLooks := .later }
def ScalarBackCardSaid : Prop := Claim7.holds Tryz.pinned (.plain (OpenSpec.ofChange scalarBackSpec)) scalarBackCard

/-- THE SECOND FORM's CARD OF 'cartouchelaw3.ScalarKnown'. -/
def scalarKnownUptoCard : Claim7 := { stood := { row := scalarKnownUptoRow, standIns := [], harness := (true, "9d2ab47fae3933988709b93e4b42adb511b6e18fcc92c6fe63da6b315bca6c9c"), looks := true }, kinds := [], alts := [], laidByText := true, laidKinds := [.data, .data, .data, .sentinel, .sentinel], laidTests := true, laidLooks := .later }
def ScalarKnownUptoCardSaid : Prop := Claim7.holds Tryz.pinned (.plain (OpenSpec.upto scalarKnownSpec)) scalarKnownUptoCard

/-- THE SECOND FORM's CARD OF 'cartouchelaw3.ScalarTexts'. -/
def scalarTextsUptoCard : Claim7 := { stood := { row := scalarTextsUptoRow, standIns := [], harness := (true, "9d2ab47fae3933988709b93e4b42adb511b6e18fcc92c6fe63da6b315bca6c9c"), looks := true }, kinds := [], alts := [], laidByText := true, laidKinds := [.data, .data, .data, .sentinel, .sentinel], laidTests := true, laidLooks := .later }
def ScalarTextsUptoCardSaid : Prop := Claim7.holds Tryz.pinned (.plain (OpenSpec.upto scalarTextsSpec)) scalarTextsUptoCard

/-- THE SECOND FORM's CARD OF 'cartouchelaw3.ScalarBack'. -/
def scalarBackUptoCard : Claim7 := { stood := { row := scalarBackUptoRow, standIns := [], harness := (true, "9d2ab47fae3933988709b93e4b42adb511b6e18fcc92c6fe63da6b315bca6c9c"), looks := true }, kinds := [], alts := [], laidByText := true, laidKinds := [.data, .data, .data, .sentinel, .sentinel], laidTests := true, laidLooks := .later }
def ScalarBackUptoCardSaid : Prop := Claim7.holds Tryz.pinned (.plain (OpenSpec.upto scalarBackSpec)) scalarBackUptoCard
end Rows
end Go.Proofs.YtcenkalhklpajaaGreatDoor
