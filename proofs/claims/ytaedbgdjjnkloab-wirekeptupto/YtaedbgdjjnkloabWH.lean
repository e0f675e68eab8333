/-
  The walk of the law WireTags.
-/
import Derived.Test.YtaedbgdjjnkloabWG
namespace Go.Proofs.Ytaedbgdjjnkloab
open Go.RowKit

/-- The bytes of a tag; none where it has a fault. -/
def pt (n k : Int) : List Int := if tf n k = 0 then pv (n * 8 + k) else []

theorem reads_nil (w : World) : Reads w none 0 0 [] := ⟨rfl, Nat.le_refl _, by omega, by simp, .inl ⟨rfl, fun _ => rfl⟩⟩

end Go.Proofs.Ytaedbgdjjnkloab
