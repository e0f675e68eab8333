/-
  What the parts import of the library.
-/
import Derived.Test.YtliohglpbmpbhaaProg
namespace Go.Proofs.Ytliohglpbmpbhaa
end Go.Proofs.Ytliohglpbmpbhaa
