/-
  The walk of the law WireWords.
-/
import Derived.Test.YtgcimeldofbgkabWL
namespace Go.Proofs.Ytgcimeldofbgkab
open Go.RowKit
set_option maxRecDepth 1000000

theorem reads_eq {w : World} {a : Option Addr} {l c : Nat} {xs ys : List Int} (h : Reads w a l c xs) (e : xs = ys) : Reads w a l c ys := by subst e; exact h

end Go.Proofs.Ytgcimeldofbgkab
