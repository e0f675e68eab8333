/-
  Walks over the program's Quote.
-/
import Derived.Test.YtlkdcdmdkncjoaaDoorQE
namespace Go.Proofs.YtlkdcdmdkncjoaaDoor
open Go.RowKit
set_option maxRecDepth 1000000

theorem qt_bytes {xs : List Int} (h : ∀ x ∈ xs, 0 ≤ x ∧ x ≤ 255) : ∀ x ∈ qt xs, 0 ≤ x ∧ x ≤ 255 := fun x hx => by have := qt_bd h x hx; omega
theorem flat_snoc {xs : List Int} {k : Nat} (h : k < xs.length) : (xs.take (k + 1)).flatMap qp = (xs.take k).flatMap qp ++ qp (xs[k]?.getD 0) := by
  rw [List.take_add_one, List.flatMap_append]
  simp [h]
theorem flat_bytes {xs : List Int} (h : ∀ x ∈ xs, 0 ≤ x ∧ x ≤ 255) (k : Nat) : ∀ x ∈ 34 :: (xs.take k).flatMap qp, 0 ≤ x ∧ x ≤ 255 := by
  intro x hx
  rcases List.mem_cons.1 hx with rfl | hx
  · omega
  · obtain ⟨c, hc, hx⟩ := List.mem_flatMap.1 hx
    have h1 := h c (List.mem_of_mem_take hc)
    have := qp_bd h1.1 h1.2 x hx
    omega
theorem flat_size (xs : List Int) (k : Nat) : (34 :: (xs.take k).flatMap qp).length ≤ 1 + 4 * k := by
  have := (flat_len (xs.take k)).2
  simp only [List.length_cons]
  have h2 : (xs.take k).length ≤ k := by simp; omega
  omega

end Go.Proofs.YtlkdcdmdkncjoaaDoor
