/-
  DERIVED. GIVEN WITH THE SEED: THE CARDS: each row of YtpndejibjiojbaaDoorRows.lean that lists a variable, with what it lists TIED to the program's text (the seventh form; the later family's looks); each row that meets fmt, with fmt's text TOLD by the authors' own Lean function (tested against real Go, not proved from fmt's source: count such statements apart). THE CARD IS WHAT COUNTS. Prove the row's statement (the work); the ties are given (YtpndejibjiojbaaDoorTie.lean); close each card by the builder's one call (the guide's Derived/Test/ToyasCard.lean, 'card_holds'). Laid BY PROGRAM, IN A SANDBOX (cutbox-door.mjs). By AI agents, Wed Nov 11 2026. No macro, syntax, notation, axiom, sorry.
-/
import Derived.Test.YtpndejibjiojbaaDoorRows
import GoSem.ClaimSeven
namespace Go.Proofs.YtpndejibjiojbaaDoor
namespace Rows

/-- THE TIED CARD OF 'cartouchelaw16.CodeKept'. -/
def codeKeptCard : Claim7 := { stood := { row := codeKeptRow, standIns := [], harness := (true, "a525516abf339f628d0f59224ffb2afa94b095bed0be11716fd818e7efbb2833"), looks := false }, kinds := [], alts := [], laidByText := true, laidKinds := [.data, .data, .data], laidTests := true, laidLooks := .later }
def CodeKeptCardSaid : Prop := Claim7.holds Tryd.pinned (.plain (OpenSpec.ofChange codeKeptSpec)) codeKeptCard

/-- THE SECOND FORM's CARD OF 'cartouchelaw16.CodeKept'. -/
def codeKeptUptoCard : Claim7 := { stood := { row := codeKeptUptoRow, standIns := [], harness := (true, "a525516abf339f628d0f59224ffb2afa94b095bed0be11716fd818e7efbb2833"), looks := false }, kinds := [], alts := [], laidByText := true, laidKinds := [.data, .data, .data], laidTests := true, laidLooks := .later }
def CodeKeptUptoCardSaid : Prop := Claim7.holds Tryd.pinned (.plain (OpenSpec.upto codeKeptSpec)) codeKeptUptoCard
end Rows
end Go.Proofs.YtpndejibjiojbaaDoor
