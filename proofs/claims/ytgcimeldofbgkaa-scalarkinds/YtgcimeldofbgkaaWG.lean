/-
  Walks over reading tags, the program's and the document's.
-/
import Derived.Test.YtgcimeldofbgkaaWF
namespace Go.Proofs.Ytgcimeldofbgkaa
open Go.RowKit
set_option maxRecDepth 1000000

theorem ret_gt {g : Int × Int × Int × Int} {a b c d : Int} (h : g = (a, b, c, d)) : Ending.returned (.tuple #[.int .i64 a, .int .i64 b, .int .i64 c, .int .i64 d]) = .returned (.tuple #[.int .i64 g.1, .int .i64 g.2.1, .int .i64 g.2.2.1, .int .i64 g.2.2.2]) := by rw [h]

end Go.Proofs.Ytgcimeldofbgkaa
