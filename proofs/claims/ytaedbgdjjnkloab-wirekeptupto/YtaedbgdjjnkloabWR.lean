/-
  Walks over the document's GetEntry.
-/
import Derived.Test.YtaedbgdjjnkloabWQ
namespace Go.Proofs.Ytaedbgdjjnkloab
open Go.RowKit

theorem size2 (w : World) (o o' : Obj) : ((w.alloc o).alloc o').heap.size = w.heap.size + 2 := by simp
theorem lt2a (w : World) (o o' : Obj) : w.heap.size < ((w.alloc o).alloc o').heap.size := by rw [size2]; omega
theorem lt2b (w : World) (o o' : Obj) : w.heap.size + 1 < ((w.alloc o).alloc o').heap.size := by rw [size2]; omega
theorem below2 {w : World} (o o' : Obj) : Below w.heap.size w ((w.alloc o).alloc o') := ((Below.refl _ _).alloc (Nat.le_refl _) o).alloc (by simp) o'

end Go.Proofs.Ytaedbgdjjnkloab
