/-
  DERIVED. GIVEN WITH THE SEED: THE CARDS: each row of YtidljnkalaklmaaDoorRows.lean that lists a variable, with what it lists TIED to the program's text (the seventh form; the later family's looks); each row that meets fmt, with fmt's text TOLD by the authors' own Lean function (tested against real Go, not proved from fmt's source: count such statements apart). THE CARD IS WHAT COUNTS. Prove the row's statement (the work); the ties are given (YtidljnkalaklmaaDoorTie.lean); close each card by the builder's one call (the guide's Derived/Test/ToyasCard.lean, 'card_holds'). Laid BY PROGRAM, IN A SANDBOX (cutbox-door.mjs). By AI agents, Wed Nov 11 2026. No macro, syntax, notation, axiom, sorry.
-/
import Derived.Test.YtidljnkalaklmaaDoorRows
import GoSem.ClaimSeven
namespace Go.Proofs.YtidljnkalaklmaaDoor
namespace Rows

/-- THE TIED CARD OF 'cartouchelaw16.CodeKnown'. -/
def codeKnownCard : Claim7 := { stood := { row := codeKnownRow, standIns := [], harness := (true, "9f78a1eb3eefeaed6b4089612524e10fb8ebe3543ab3e1a6222b75cc428cd3f3"), looks := false }, kinds := [], alts := [], laidByText := true, laidKinds := [.data, .data, .data], laidTests := true, laidLooks := .later }
def CodeKnownCardSaid : Prop := Claim7.holds Tryd.pinned (.plain (OpenSpec.ofChange codeKnownSpec)) codeKnownCard

/-- THE TIED CARD OF 'cartouchelaw16.CodeKept'. -/
def codeKeptCard : Claim7 := { stood := { row := codeKeptRow, standIns := [], harness := (true, "9f78a1eb3eefeaed6b4089612524e10fb8ebe3543ab3e1a6222b75cc428cd3f3"), looks := false }, kinds := [], alts := [], laidByText := true, laidKinds := [.data, .data, .data], laidTests := true, laidLooks := .later }
def CodeKeptCardSaid : Prop := Claim7.holds Tryd.pinned (.plain (OpenSpec.ofChange codeKeptSpec)) codeKeptCard

/-- THE SECOND FORM's CARD OF 'cartouchelaw16.CodeKnown'. -/
def codeKnownUptoCard : Claim7 := { stood := { row := codeKnownUptoRow, standIns := [], harness := (true, "9f78a1eb3eefeaed6b4089612524e10fb8ebe3543ab3e1a6222b75cc428cd3f3"), looks := false }, kinds := [], alts := [], laidByText := true, laidKinds := [.data, .data, .data], laidTests := true, laidLooks := .later }
def CodeKnownUptoCardSaid : Prop := Claim7.holds Tryd.pinned (.plain (OpenSpec.upto codeKnownSpec)) codeKnownUptoCard

/-- THE SECOND FORM's CARD OF 'cartouchelaw16.CodeKept'. -/
def codeKeptUptoCard : Claim7 := { stood := { row := codeKeptUptoRow, standIns := [], harness := (true, "9f78a1eb3eefeaed6b4089612524e10fb8ebe3543ab3e1a6222b75cc428cd3f3"), looks := false }, kinds := [], alts := [], laidByText := true, laidKinds := [.data, .data, .data], laidTests := true, laidLooks := .later }
def CodeKeptUptoCardSaid : Prop := Claim7.holds Tryd.pinned (.plain (OpenSpec.upto codeKeptSpec)) codeKeptUptoCard
end Rows
end Go.Proofs.YtidljnkalaklmaaDoor
