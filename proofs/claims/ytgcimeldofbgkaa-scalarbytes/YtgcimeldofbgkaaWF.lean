/-
  Walks over tags, the program's and the document's.
-/
import Derived.Test.YtgcimeldofbgkaaWE
import Derived.Test.YtgcimeldofbgkaaM2
namespace Go.Proofs.Ytgcimeldofbgkaa
open Go.RowKit
set_option maxRecDepth 1000000

end Go.Proofs.Ytgcimeldofbgkaa
