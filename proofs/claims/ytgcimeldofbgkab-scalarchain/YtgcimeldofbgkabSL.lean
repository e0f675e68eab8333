/-
  Get: the document's walk over chunks; as a whole.
-/
import Derived.Test.YtgcimeldofbgkabSK
namespace Go.Proofs.Ytgcimeldofbgkab
open Go.RowKit
set_option maxRecDepth 1000000
set_option maxHeartbeats 4000000

/-- Two values' own cells, wherever new blocks came behind them. -/
theorem two_cells {w w2 : World} {x y z x' y' z' : Value} (hb : Below ((w.alloc (.cells #[x, y, z] 26)).alloc (.cells #[x', y', z'] 26)).heap.size ((w.alloc (.cells #[x, y, z] 26)).alloc (.cells #[x', y', z'] 26)) w2) :
    (w2.cell? ⟨w.heap.size, 0, none⟩ = some x ∧ w2.cell? ⟨w.heap.size, 1, none⟩ = some y ∧ w2.cell? ⟨w.heap.size, 2, none⟩ = some z) ∧ (w2.cell? ⟨w.heap.size + 1, 0, none⟩ = some x' ∧ w2.cell? ⟨w.heap.size + 1, 1, none⟩ = some y' ∧ w2.cell? ⟨w.heap.size + 1, 2, none⟩ = some z') ∧ (∀ o, w2.frozen? ⟨w.heap.size, o, none⟩ = false) ∧ (∀ o, w2.frozen? ⟨w.heap.size + 1, o, none⟩ = false) ∧ w.heap.size + 1 < w2.heap.size ∧ Below w.heap.size w w2 := by
  have hs : w.heap.size + 1 < w2.heap.size := by have := hb.size; simp at this; omega
  have h0 : Below (w.alloc (.cells #[x, y, z] 26)).heap.size (w.alloc (.cells #[x, y, z] 26)) w2 := (below_alloc _).trans (hb.mono (by simp))
  have h1 := vcells (w := w.alloc (.cells #[x, y, z] 26)) hb
  have h2 := froz (w := w.alloc (.cells #[x, y, z] 26)) hb
  simp only [World.size_alloc] at h1 h2
  exact ⟨vcells h0, h1, froz h0, h2, hs, below_trans (below_alloc _) h0⟩
section
variable (k nx er : Int) (a : Option Addr) (len cap p : Nat) (w : World) (ys : List Int)
end
theorem gc_len {xs : List Int} (p : Nat) : (gc xs p).1.length ≤ xs.length := by
  unfold gc gcF
  split
  · simp
  · split
    · simp
    · simp; omega
theorem gave_eq {w w' : World} {g g' : GotV} {e : Ending} (h : Gave w g e w') (hg : g = g') : Gave w g' e w' := by subst hg; exact h
end Go.Proofs.Ytgcimeldofbgkab
