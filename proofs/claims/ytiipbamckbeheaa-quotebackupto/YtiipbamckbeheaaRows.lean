/-
  No cell of these rows narrows 'for every input' (looked for: loops, veiled, ifaces, maps, wideKeys, modest, calm, conditions, laid).
  DERIVED. THE GIVEN ROWS OF THIS SEAT. 4 by the template 'for every input the law returns true; each argument reads behind the call as it read before'; 0 by the template 'total and deterministic' (their statements: YtiipbamckbeheaaTotals.lean).
  GIVEN WITH THE SEED: the statements are not yours to turn. If you find one false, say at which input.
  Laid BY PROGRAM, IN A SANDBOX (cutbox-rows.mjs): the forced cells as the released guide's own fill.sh prints them over the translation d390a39cb47e954a… (all of the seat's roots in one cut). By AI agents, Wed Nov 11 2026. No macro, syntax, notation, axiom, sorry.
-/
import Derived.Test.YtiipbamckbeheaaChecked
import GoSem.Claim
import GoSem.ClaimJoined
import GoSem.ClaimMapViews
import Derived.JoinedTies
import Derived.KernelRfl
namespace Go.Proofs.Ytiipbamckbeheaa
/- THE CELL 'sum', in the pinned program and in every row, IS THE sha256 OF THE DUMP (.gsa) THAT YtiipbamckbeheaaProg.lean LOADS. Nothing in Lean hashes anything: it is a label: what it is worth is what the hold of that sum in a sandbox is worth. -/
noncomputable def Try.pinned : Pinned := { name := "ytiipbamckbeheaa", sum := "d390a39cb47e954a7e861c1272165f46784c44f23a91a8a873ef03d17c7b9a3e", checked := Try.checked }
namespace Rows
def none {H : Type} : Left H := { results := [], args := [] }

/-- 'cartouchelaw2.QuoteKnown': WHATEVER THE INPUT: true; the input reads as it did. -/
def quoteKnownSpec : ChangeSpec := { name := "quoteKnown", fn := fun _ => fun
  | [] => { results := [.lit (.bool true)], args := [] }
  | _ => none }
def quoteKnownRow : OpenClaim := { program := "ytiipbamckbeheaa", sum := "d390a39cb47e954a7e861c1272165f46784c44f23a91a8a873ef03d17c7b9a3e", func := "cartouche/cartouchelaw2.QuoteKnown", spec := "quoteKnown", apart := false }
def QuoteKnownSaid : Prop := quoteKnownRow.holds Try.pinned (OpenSpec.ofChange quoteKnownSpec)

/-- ITS FALSE NEIGHBOUR: 'it returns false'. Refute it at one input. -/
def quoteKnownWrong : ChangeSpec := { name := "quoteKnown", fn := fun _ => fun
  | [] => { results := [.lit (.bool false)], args := [] }
  | _ => none }
def QuoteKnownWrongFalsely : Prop := quoteKnownRow.holds Try.pinned (OpenSpec.ofChange quoteKnownWrong)

/-- 'cartouchelaw2.QuoteRunes': WHATEVER THE INPUT: true; the input reads as it did. -/
def quoteRunesSpec : ChangeSpec := { name := "quoteRunes", fn := fun _ => fun
  | [d] => { results := [.lit (.bool true)], args := [d] }
  | _ => none }
def quoteRunesRow : OpenClaim := { program := "ytiipbamckbeheaa", sum := "d390a39cb47e954a7e861c1272165f46784c44f23a91a8a873ef03d17c7b9a3e", func := "cartouche/cartouchelaw2.QuoteRunes", spec := "quoteRunes", apart := false }
def QuoteRunesSaid : Prop := quoteRunesRow.holds Try.pinned (OpenSpec.ofChange quoteRunesSpec)

/-- ITS FALSE NEIGHBOUR: 'it returns false'. Refute it at one input. -/
def quoteRunesWrong : ChangeSpec := { name := "quoteRunes", fn := fun _ => fun
  | [d] => { results := [.lit (.bool false)], args := [d] }
  | _ => none }
def QuoteRunesWrongFalsely : Prop := quoteRunesRow.holds Try.pinned (OpenSpec.ofChange quoteRunesWrong)

/-- 'cartouchelaw2.QuoteTexts': WHATEVER THE INPUT: true; the input reads as it did. -/
def quoteTextsSpec : ChangeSpec := { name := "quoteTexts", fn := fun _ => fun
  | [d1, d2] => { results := [.lit (.bool true)], args := [d1, d2] }
  | _ => none }
def quoteTextsRow : OpenClaim := { program := "ytiipbamckbeheaa", sum := "d390a39cb47e954a7e861c1272165f46784c44f23a91a8a873ef03d17c7b9a3e", func := "cartouche/cartouchelaw2.QuoteTexts", spec := "quoteTexts", apart := false }
def QuoteTextsSaid : Prop := quoteTextsRow.holds Try.pinned (OpenSpec.ofChange quoteTextsSpec)

/-- ITS FALSE NEIGHBOUR: 'it returns false'. Refute it at one input. -/
def quoteTextsWrong : ChangeSpec := { name := "quoteTexts", fn := fun _ => fun
  | [d1, d2] => { results := [.lit (.bool false)], args := [d1, d2] }
  | _ => none }
def QuoteTextsWrongFalsely : Prop := quoteTextsRow.holds Try.pinned (OpenSpec.ofChange quoteTextsWrong)

/-- 'cartouchelaw2.QuoteBack': WHATEVER THE INPUT: true; the input reads as it did. -/
def quoteBackSpec : ChangeSpec := { name := "quoteBack", fn := fun _ => fun
  | [d1, d2] => { results := [.lit (.bool true)], args := [d1, d2] }
  | _ => none }
def quoteBackRow : OpenClaim := { program := "ytiipbamckbeheaa", sum := "d390a39cb47e954a7e861c1272165f46784c44f23a91a8a873ef03d17c7b9a3e", func := "cartouche/cartouchelaw2.QuoteBack", spec := "quoteBack", apart := false }
def QuoteBackSaid : Prop := quoteBackRow.holds Try.pinned (OpenSpec.ofChange quoteBackSpec)

/-- ITS FALSE NEIGHBOUR: 'it returns false'. Refute it at one input. -/
def quoteBackWrong : ChangeSpec := { name := "quoteBack", fn := fun _ => fun
  | [d1, d2] => { results := [.lit (.bool false)], args := [d1, d2] }
  | _ => none }
def QuoteBackWrongFalsely : Prop := quoteBackRow.holds Try.pinned (OpenSpec.ofChange quoteBackWrong)

/- THE SECOND FORM. 'bulk': how many values and letters a reading holds, each counted each time it is reached (what is shared counts as often as it is met; a slice's spare places count too). A statement '..UptoSaid' is the law's where the arguments, and the package variables that the reading takes, are together of bulk at most 1048576: NARROWER than '..Said'. Prove '..Said' where nothing that the law and all that it calls make is longer than what came in: it says more and counts as full. Else prove '..UptoSaid'. A law counts once. -/
mutual
def uptoBulk {H : Type} : DataW H → Nat
  | .lit (.string bytes) => bytes.length + 1
  | .lit _ => 1
  | .nil => 1
  | .ptr d => uptoBulk d + 1
  | .slice elems spare => uptoBulkAll elems + uptoBulkAll spare + 1
  | .agg parts => uptoBulkAll parts + 1
  | .iface _ d => uptoBulk d + 1
  | .map entries => uptoBulkEntries entries + 1
  | .held _ => 1
def uptoBulkAll {H : Type} : List (DataW H) → Nat
  | [] => 0
  | d :: r => uptoBulk d + uptoBulkAll r
def uptoBulkEntries {H : Type} : List (Lit × DataW H) → Nat
  | [] => 0
  | x :: r => uptoBulkEntry x + uptoBulkEntries r
def uptoBulkEntry {H : Type} : Lit × DataW H → Nat
  | (.string bytes, d) => bytes.length + uptoBulk d + 1
  | (_, d) => uptoBulk d + 1
 end
def uptoSmall : (H : Type) → List (DataW H) → Bool := fun _ ds => decide (uptoBulkAll ds ≤ 1048576)
def OpenSpec.upto (s : _root_.Go.ChangeSpec) : _root_.Go.OpenSpec := { _root_.Go.OpenSpec.ofChange s with cond := some uptoSmall }

/-- 'cartouchelaw2.QuoteKnown', WHERE WHAT IT READS IS OF BULK AT MOST 1048576: true; the input reads as it did. -/
def quoteKnownUptoRow : OpenClaim := { program := "ytiipbamckbeheaa", sum := "d390a39cb47e954a7e861c1272165f46784c44f23a91a8a873ef03d17c7b9a3e", func := "cartouche/cartouchelaw2.QuoteKnown", spec := "quoteKnown", apart := false, narrowed := true }
def QuoteKnownUptoSaid : Prop := quoteKnownUptoRow.holds Try.pinned (OpenSpec.upto quoteKnownSpec)

/-- 'cartouchelaw2.QuoteRunes', WHERE WHAT IT READS IS OF BULK AT MOST 1048576: true; the input reads as it did. -/
def quoteRunesUptoRow : OpenClaim := { program := "ytiipbamckbeheaa", sum := "d390a39cb47e954a7e861c1272165f46784c44f23a91a8a873ef03d17c7b9a3e", func := "cartouche/cartouchelaw2.QuoteRunes", spec := "quoteRunes", apart := false, narrowed := true }
def QuoteRunesUptoSaid : Prop := quoteRunesUptoRow.holds Try.pinned (OpenSpec.upto quoteRunesSpec)

/-- 'cartouchelaw2.QuoteTexts', WHERE WHAT IT READS IS OF BULK AT MOST 1048576: true; the input reads as it did. -/
def quoteTextsUptoRow : OpenClaim := { program := "ytiipbamckbeheaa", sum := "d390a39cb47e954a7e861c1272165f46784c44f23a91a8a873ef03d17c7b9a3e", func := "cartouche/cartouchelaw2.QuoteTexts", spec := "quoteTexts", apart := false, narrowed := true }
def QuoteTextsUptoSaid : Prop := quoteTextsUptoRow.holds Try.pinned (OpenSpec.upto quoteTextsSpec)

/-- 'cartouchelaw2.QuoteBack', WHERE WHAT IT READS IS OF BULK AT MOST 1048576: true; the input reads as it did. -/
def quoteBackUptoRow : OpenClaim := { program := "ytiipbamckbeheaa", sum := "d390a39cb47e954a7e861c1272165f46784c44f23a91a8a873ef03d17c7b9a3e", func := "cartouche/cartouchelaw2.QuoteBack", spec := "quoteBack", apart := false, narrowed := true }
def QuoteBackUptoSaid : Prop := quoteBackUptoRow.holds Try.pinned (OpenSpec.upto quoteBackSpec)

end Rows
end Go.Proofs.Ytiipbamckbeheaa
