/-
  Walks over tags, the program's and the document's.
-/
import Derived.Test.YtgcimeldofbgkabWE
import Derived.Test.YtgcimeldofbgkabM2
namespace Go.Proofs.Ytgcimeldofbgkab
open Go.RowKit
set_option maxRecDepth 1000000

end Go.Proofs.Ytgcimeldofbgkab
