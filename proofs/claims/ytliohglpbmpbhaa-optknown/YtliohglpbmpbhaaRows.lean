/-
  No cell of these rows narrows 'for every input' (looked for: loops, veiled, ifaces, maps, wideKeys, modest, calm, conditions, laid).
  DERIVED. THE GIVEN ROWS OF THIS SEAT. 3 by the template 'for every input the law returns true; each argument reads behind the call as it read before'; 0 by the template 'total and deterministic' (their statements: YtliohglpbmpbhaaTotals.lean).
  GIVEN WITH THE SEED: the statements are not yours to turn. If you find one false, say at which input.
  Laid BY PROGRAM, IN A SANDBOX (cutbox-rows.mjs): the forced cells as the released guide's own fill.sh prints them over the translation aeaac5ef049176c9… (all of the seat's roots in one cut). By AI agents, Wed Nov 11 2026. No macro, syntax, notation, axiom, sorry.
-/
import Derived.Test.YtliohglpbmpbhaaChecked
import GoSem.Claim
import GoSem.ClaimJoined
import GoSem.ClaimMapViews
import Derived.JoinedTies
import Derived.KernelRfl
namespace Go.Proofs.Ytliohglpbmpbhaa
/- THE CELL 'sum', in the pinned program and in every row, IS THE sha256 OF THE DUMP (.gsa) THAT YtliohglpbmpbhaaProg.lean LOADS. Nothing in Lean hashes anything: it is a label: what it is worth is what the hold of that sum in a sandbox is worth. -/
noncomputable def Try.pinned : Pinned := { name := "ytliohglpbmpbhaa", sum := "aeaac5ef049176c942becb9ea1918a2a24256e06dc72502927e90832fdbbab33", checked := Try.checked }
namespace Rows
def none {H : Type} : Left H := { results := [], args := [] }

/-- 'cartouchelaw14.OptKnown': WHATEVER THE INPUT: true; the input reads as it did. -/
def optKnownSpec : ChangeSpec := { name := "optKnown", fn := fun _ => fun
  | [] => { results := [.lit (.bool true)], args := [] }
  | _ => none }
def optKnownRow : OpenClaim := { program := "ytliohglpbmpbhaa", sum := "aeaac5ef049176c942becb9ea1918a2a24256e06dc72502927e90832fdbbab33", func := "cartouche/cartouchelaw14.OptKnown", spec := "optKnown", unfollowed := true, recurses := true, apart := false }
def OptKnownSaid : Prop := optKnownRow.holds Try.pinned (OpenSpec.ofChange optKnownSpec)

/-- ITS FALSE NEIGHBOUR: 'it returns false'. Refute it at one input. -/
def optKnownWrong : ChangeSpec := { name := "optKnown", fn := fun _ => fun
  | [] => { results := [.lit (.bool false)], args := [] }
  | _ => none }
def OptKnownWrongFalsely : Prop := optKnownRow.holds Try.pinned (OpenSpec.ofChange optKnownWrong)

/-- 'cartouchelaw14.OptValid': WHATEVER THE INPUT: true; the input reads as it did. -/
def optValidSpec : ChangeSpec := { name := "optValid", fn := fun _ => fun
  | [d1, d2] => { results := [.lit (.bool true)], args := [d1, d2] }
  | _ => none }
def optValidRow : OpenClaim := { program := "ytliohglpbmpbhaa", sum := "aeaac5ef049176c942becb9ea1918a2a24256e06dc72502927e90832fdbbab33", func := "cartouche/cartouchelaw14.OptValid", spec := "optValid", unfollowed := true, recurses := true, apart := false }
def OptValidSaid : Prop := optValidRow.holds Try.pinned (OpenSpec.ofChange optValidSpec)

/-- ITS FALSE NEIGHBOUR: 'it returns false'. Refute it at one input. -/
def optValidWrong : ChangeSpec := { name := "optValid", fn := fun _ => fun
  | [d1, d2] => { results := [.lit (.bool false)], args := [d1, d2] }
  | _ => none }
def OptValidWrongFalsely : Prop := optValidRow.holds Try.pinned (OpenSpec.ofChange optValidWrong)

/-- 'cartouchelaw14.OptKept': WHATEVER THE INPUT: true; the input reads as it did. -/
def optKeptSpec : ChangeSpec := { name := "optKept", fn := fun _ => fun
  | [d1, d2] => { results := [.lit (.bool true)], args := [d1, d2] }
  | _ => none }
def optKeptRow : OpenClaim := { program := "ytliohglpbmpbhaa", sum := "aeaac5ef049176c942becb9ea1918a2a24256e06dc72502927e90832fdbbab33", func := "cartouche/cartouchelaw14.OptKept", spec := "optKept", unfollowed := true, recurses := true, apart := false }
def OptKeptSaid : Prop := optKeptRow.holds Try.pinned (OpenSpec.ofChange optKeptSpec)

/-- ITS FALSE NEIGHBOUR: 'it returns false'. Refute it at one input. -/
def optKeptWrong : ChangeSpec := { name := "optKept", fn := fun _ => fun
  | [d1, d2] => { results := [.lit (.bool false)], args := [d1, d2] }
  | _ => none }
def OptKeptWrongFalsely : Prop := optKeptRow.holds Try.pinned (OpenSpec.ofChange optKeptWrong)

/- THE SECOND FORM. 'bulk': how many values and letters a reading holds, each counted each time it is reached (what is shared counts as often as it is met; a slice's spare places count too). A statement '..UptoSaid' is the law's where the arguments, and the package variables that the reading takes, are together of bulk at most 1048576: NARROWER than '..Said'. Prove '..Said' where nothing that the law and all that it calls make is longer than what came in: it says more and counts as full. Else prove '..UptoSaid'. A law counts once. -/
mutual
def uptoBulk {H : Type} : DataW H → Nat
  | .lit (.string bytes) => bytes.length + 1
  | .lit _ => 1
  | .nil => 1
  | .ptr d => uptoBulk d + 1
  | .slice elems spare => uptoBulkAll elems + uptoBulkAll spare + 1
  | .agg parts => uptoBulkAll parts + 1
  | .iface _ d => uptoBulk d + 1
  | .map entries => uptoBulkEntries entries + 1
  | .held _ => 1
def uptoBulkAll {H : Type} : List (DataW H) → Nat
  | [] => 0
  | d :: r => uptoBulk d + uptoBulkAll r
def uptoBulkEntries {H : Type} : List (Lit × DataW H) → Nat
  | [] => 0
  | x :: r => uptoBulkEntry x + uptoBulkEntries r
def uptoBulkEntry {H : Type} : Lit × DataW H → Nat
  | (.string bytes, d) => bytes.length + uptoBulk d + 1
  | (_, d) => uptoBulk d + 1
 end
def uptoSmall : (H : Type) → List (DataW H) → Bool := fun _ ds => decide (uptoBulkAll ds ≤ 1048576)
def OpenSpec.upto (s : _root_.Go.ChangeSpec) : _root_.Go.OpenSpec := { _root_.Go.OpenSpec.ofChange s with cond := some uptoSmall }

/-- 'cartouchelaw14.OptKnown', WHERE WHAT IT READS IS OF BULK AT MOST 1048576: true; the input reads as it did. -/
def optKnownUptoRow : OpenClaim := { program := "ytliohglpbmpbhaa", sum := "aeaac5ef049176c942becb9ea1918a2a24256e06dc72502927e90832fdbbab33", func := "cartouche/cartouchelaw14.OptKnown", spec := "optKnown", unfollowed := true, recurses := true, apart := false, narrowed := true }
def OptKnownUptoSaid : Prop := optKnownUptoRow.holds Try.pinned (OpenSpec.upto optKnownSpec)

/-- 'cartouchelaw14.OptValid', WHERE WHAT IT READS IS OF BULK AT MOST 1048576: true; the input reads as it did. -/
def optValidUptoRow : OpenClaim := { program := "ytliohglpbmpbhaa", sum := "aeaac5ef049176c942becb9ea1918a2a24256e06dc72502927e90832fdbbab33", func := "cartouche/cartouchelaw14.OptValid", spec := "optValid", unfollowed := true, recurses := true, apart := false, narrowed := true }
def OptValidUptoSaid : Prop := optValidUptoRow.holds Try.pinned (OpenSpec.upto optValidSpec)

/-- 'cartouchelaw14.OptKept', WHERE WHAT IT READS IS OF BULK AT MOST 1048576: true; the input reads as it did. -/
def optKeptUptoRow : OpenClaim := { program := "ytliohglpbmpbhaa", sum := "aeaac5ef049176c942becb9ea1918a2a24256e06dc72502927e90832fdbbab33", func := "cartouche/cartouchelaw14.OptKept", spec := "optKept", unfollowed := true, recurses := true, apart := false, narrowed := true }
def OptKeptUptoSaid : Prop := optKeptUptoRow.holds Try.pinned (OpenSpec.upto optKeptSpec)

end Rows
end Go.Proofs.Ytliohglpbmpbhaa
