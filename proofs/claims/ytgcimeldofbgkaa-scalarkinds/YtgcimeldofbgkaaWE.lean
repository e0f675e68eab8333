/-
  A slice that came in can be read; the walk of the law WireVarints.
-/
import Derived.Test.YtgcimeldofbgkaaWD
import Derived.OpenShut
namespace Go.Proofs.Ytgcimeldofbgkaa
open Go.RowKit
set_option maxRecDepth 1000000

end Go.Proofs.Ytgcimeldofbgkaa
