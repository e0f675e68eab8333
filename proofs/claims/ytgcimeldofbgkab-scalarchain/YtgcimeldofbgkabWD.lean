/-
  What is owned can be read, and stays; 'awake' returns true.
-/
import Derived.Test.YtgcimeldofbgkabWC
namespace Go.Proofs.Ytgcimeldofbgkab
open Go.RowKit
set_option maxRecDepth 1000000

/-- PutVarint's answer as a slice that can be read. -/
theorem putvWr (n : Int) (w : World) (h0 : 0 ≤ n) (h1 : n < 18446744073709551616) :
    Calls Try.prog 19 #[.int .u64 n] w fun e w' => ∃ a cap, e = .returned (.slice a (pv n).length cap) ∧ Reads w' a (pv n).length cap (pv n) ∧ Below w.heap.size w w' := by
  refine (putvW n w h0 h1).mono ?_
  rintro e w' ⟨v, rfl, ho, hb⟩
  obtain ⟨a, cap, rfl, hr⟩ := own_reads ho (pv_bd h0 h1)
  exact ⟨a, cap, rfl, hr, hb⟩
theorem gv_300 : gv [172, 2, 9] 0 = (300, 2, 0) := by decide
theorem pv_300 : pv 300 = [172, 2] := by decide

end Go.Proofs.Ytgcimeldofbgkab
