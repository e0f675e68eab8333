/-
  The walk of the law WireTags.
-/
import Derived.Test.YtgcimeldofbgkabWG
namespace Go.Proofs.Ytgcimeldofbgkab
open Go.RowKit
set_option maxRecDepth 1000000

/-- The bytes of a tag; none where it has a fault. -/
def pt (n k : Int) : List Int := if tf n k = 0 then pv (n * 8 + k) else []

end Go.Proofs.Ytgcimeldofbgkab
