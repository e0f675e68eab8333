/-
  What the parts import of the library.
-/
import Derived.Test.YtliohglpbmpbhaaProg
import Derived.Lib.LastIndexByte
import Derived.Lib.Strings
namespace Go.Proofs.Ytliohglpbmpbhaa
end Go.Proofs.Ytliohglpbmpbhaa
