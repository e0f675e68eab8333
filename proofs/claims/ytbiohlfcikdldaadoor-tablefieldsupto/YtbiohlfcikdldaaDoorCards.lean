/-
  DERIVED. GIVEN WITH THE SEED: THE CARDS: each row of YtbiohlfcikdldaaDoorRows.lean that lists a variable, with what it lists TIED to the program's text (the seventh form; the later family's looks); each row that meets fmt, with fmt's text TOLD by the authors' own Lean function (tested against real Go, not proved from fmt's source: count such statements apart). THE CARD IS WHAT COUNTS. Prove the row's statement (the work); the ties are given (YtbiohlfcikdldaaDoorTie.lean); close each card by the builder's one call (the guide's Derived/Test/ToyasCard.lean, 'card_holds'). Laid BY PROGRAM, IN A SANDBOX (cutbox-door.mjs). By AI agents, Wed Nov 11 2026. No macro, syntax, notation, axiom, sorry.
-/
import Derived.Test.YtbiohlfcikdldaaDoorRows
import GoSem.ClaimSeven
namespace Go.Proofs.YtbiohlfcikdldaaDoor
namespace Rows

/-- THE TIED CARD OF 'cartouchelaw7.TableKnown'. -/
def tableKnownCard : Claim7 := { stood := { row := tableKnownRow, standIns := [], harness := (true, "02eb22454f6e97988f2ab9425380e563d6508ba5c5a390927c581b70ddc68f1b"), looks := false }, kinds := [], alts := [], laidByText := true, laidKinds := [.data, .pinned], laidTests := true, laidLooks := .later }
def TableKnownCardSaid : Prop := Claim7.holds Tryd.pinned (.plain (OpenSpec.ofChange tableKnownSpec)) tableKnownCard

/-- THE TIED CARD OF 'cartouchelaw7.TableGood'. -/
def tableGoodCard : Claim7 := { stood := { row := tableGoodRow, standIns := [], harness := (true, "02eb22454f6e97988f2ab9425380e563d6508ba5c5a390927c581b70ddc68f1b"), looks := false }, kinds := [], alts := [], laidByText := true, laidKinds := [.data, .pinned], laidTests := true, laidLooks := .later }
def TableGoodCardSaid : Prop := Claim7.holds Tryd.pinned (.plain (OpenSpec.ofChange tableGoodSpec)) tableGoodCard

/-- THE TIED CARD OF 'cartouchelaw7.TableFields'. -/
def tableFieldsCard : Claim7 := { stood := { row := tableFieldsRow, standIns := [], harness := (true, "02eb22454f6e97988f2ab9425380e563d6508ba5c5a390927c581b70ddc68f1b"), looks := false }, kinds := [], alts := [], laidByText := true, laidKinds := [.data, .pinned], laidTests := true, laidLooks := .later }
def TableFieldsCardSaid : Prop := Claim7.holds Tryd.pinned (.plain (OpenSpec.ofChange tableFieldsSpec)) tableFieldsCard

/-- THE TIED CARD OF 'cartouchelaw7.TableSymbols'. -/
def tableSymbolsCard : Claim7 := { stood := { row := tableSymbolsRow, standIns := [], harness := (true, "02eb22454f6e97988f2ab9425380e563d6508ba5c5a390927c581b70ddc68f1b"), looks := false }, kinds := [], alts := [], laidByText := true, laidKinds := [.data, .pinned], laidTests := true, laidLooks := .later }
def TableSymbolsCardSaid : Prop := Claim7.holds Tryd.pinned (.plain (OpenSpec.ofChange tableSymbolsSpec)) tableSymbolsCard

/-- THE SECOND FORM's CARD OF 'cartouchelaw7.TableKnown'. -/
def tableKnownUptoCard : Claim7 := { stood := { row := tableKnownUptoRow, standIns := [], harness := (true, "02eb22454f6e97988f2ab9425380e563d6508ba5c5a390927c581b70ddc68f1b"), looks := false }, kinds := [], alts := [], laidByText := true, laidKinds := [.data, .pinned], laidTests := true, laidLooks := .later }
def TableKnownUptoCardSaid : Prop := Claim7.holds Tryd.pinned (.plain (OpenSpec.upto tableKnownSpec)) tableKnownUptoCard

/-- THE SECOND FORM's CARD OF 'cartouchelaw7.TableGood'. -/
def tableGoodUptoCard : Claim7 := { stood := { row := tableGoodUptoRow, standIns := [], harness := (true, "02eb22454f6e97988f2ab9425380e563d6508ba5c5a390927c581b70ddc68f1b"), looks := false }, kinds := [], alts := [], laidByText := true, laidKinds := [.data, .pinned], laidTests := true, laidLooks := .later }
def TableGoodUptoCardSaid : Prop := Claim7.holds Tryd.pinned (.plain (OpenSpec.upto tableGoodSpec)) tableGoodUptoCard

/-- THE SECOND FORM's CARD OF 'cartouchelaw7.TableFields'. -/
def tableFieldsUptoCard : Claim7 := { stood := { row := tableFieldsUptoRow, standIns := [], harness := (true, "02eb22454f6e97988f2ab9425380e563d6508ba5c5a390927c581b70ddc68f1b"), looks := false }, kinds := [], alts := [], laidByText := true, laidKinds := [.data, .pinned], laidTests := true, laidLooks := .later }
def TableFieldsUptoCardSaid : Prop := Claim7.holds Tryd.pinned (.plain (OpenSpec.upto tableFieldsSpec)) tableFieldsUptoCard

/-- THE SECOND FORM's CARD OF 'cartouchelaw7.TableSymbols'. -/
def tableSymbolsUptoCard : Claim7 := { stood := { row := tableSymbolsUptoRow, standIns := [], harness := (true, "02eb22454f6e97988f2ab9425380e563d6508ba5c5a390927c581b70ddc68f1b"), looks := false }, kinds := [], alts := [], laidByText := true, laidKinds := [.data, .pinned], laidTests := true, laidLooks := .later }
def TableSymbolsUptoCardSaid : Prop := Claim7.holds Tryd.pinned (.plain (OpenSpec.upto tableSymbolsSpec)) tableSymbolsUptoCard
end Rows
end Go.Proofs.YtbiohlfcikdldaaDoor
