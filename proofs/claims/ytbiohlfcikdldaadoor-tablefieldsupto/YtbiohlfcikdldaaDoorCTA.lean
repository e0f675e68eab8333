/-
  What holds of blocks and rows wherever they lie; nothing of the program's functions.
  Plain mathematics for the layer quote: characters of UTF-8 (how wide the first one is; how many there are), quoted texts and their parts. Nothing of the program.
  Plain mathematics for words: bytes by place, lines and columns, scanning, the words of a text; nothing of the program.
  Names: letters, digits, one word (of the program table and of the document).
  Lists of names.
  Lists of names: areNames.
  Kinds, as the tables ask of them.
  A field by itself: its kind, reference, label, oneof, key.
  A field by itself: its label, its oneof, its reference.
  A field by itself, whole.
  Rows of fields, symbols, ranges, types, cell by cell; numbers that rise.
  All fields by themselves; the members of oneofs.
  Each oneof has a member.
  No two are the same: a map's size.
  No two are the same: what the program answers.
  Rows of one's own that grow.
  The symbols of an enum.
-/
import Derived.Test.YtbiohlfcikdldaaDoorRows
namespace Go.Proofs.YtbiohlfcikdldaaDoor
open Go.RowKit
set_option maxRecDepth 1000000
set_option linter.unusedVariables false
/-! ### Quoted texts -/
set_option linter.unusedSimpArgs false
set_option maxHeartbeats 2000000
set_option maxHeartbeats 600000
section
variable (ns : List (List Int)) (w : World) (a : Option Addr) (n c : Nat)
end
set_option maxHeartbeats 1000000
set_option maxHeartbeats 600000
structure FT where
  name : List Int
  num : Int
  kind : Int
  ref : Int
  lab : Int
  one : Int
  key : Int
section
variable (f : FT) (w : World)
end
section
variable (f : FT) (w : World)
end
set_option maxHeartbeats 1000000
end Go.Proofs.YtbiohlfcikdldaaDoor
