/-
  Put: the document's walk.
-/
import Derived.Test.YtgcimeldofbgkabSF
namespace Go.Proofs.Ytgcimeldofbgkab
open Go.RowKit
set_option maxRecDepth 1000000
set_option maxHeartbeats 8000000

theorem kone_wire {k : Int} (h : kone k = true) : (k = 1 ∧ kwire k = 0) ∨ (k = 2 ∧ kwire k = 0) ∨ (k = 3 ∧ kwire k = 0) ∨ (k = 4 ∧ kwire k = 0) ∨ (k = 5 ∧ kwire k = 0) ∨ (k = 6 ∧ kwire k = 0) ∨ (k = 7 ∧ kwire k = 0) ∨ (k = 8 ∧ kwire k = 5) ∨ (k = 9 ∧ kwire k = 1) ∨ (k = 10 ∧ kwire k = 5) ∨ (k = 11 ∧ kwire k = 1) ∨ (k = 12 ∧ kwire k = 5) ∨ (k = 13 ∧ kwire k = 1) ∨ (k = 14 ∧ kwire k = 2) ∨ (k = 15 ∧ kwire k = 2) ∨ (k = 16 ∧ kwire k = 0) := by
  rcases kone_cases h with rfl | rfl | rfl | rfl | rfl | rfl | rfl | rfl | rfl | rfl | rfl | rfl | rfl | rfl | rfl | rfl
  all_goals decide
section
variable (k n : Int) (a am : Option Addr) (len cap lm cm : Nat) (w : World)
end
end Go.Proofs.Ytgcimeldofbgkab
