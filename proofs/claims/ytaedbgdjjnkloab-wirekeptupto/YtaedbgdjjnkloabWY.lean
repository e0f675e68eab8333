/-
  The walk of the law WireKnown.
-/
import Derived.Test.YtaedbgdjjnkloabWW
namespace Go.Proofs.Ytaedbgdjjnkloab
open Go.RowKit

theorem cell_kept {w w' : World} {b o : Nat} {v : Value} (h : w.cell? ⟨b, o, none⟩ = some v) (hb : Below w.heap.size w w') : w'.cell? ⟨b, o, none⟩ = some v := by
  rw [hb.cell (p := ⟨b, o, none⟩) (World.block_lt_of_cell? _ _ h)]; exact h
theorem readsL_two (w : World) : ReadsL (w.alloc (.cells #[.int .i64 1, .int .i64 0, .int .u64 1, .slice none 0 0, .int .i64 2, .int .i64 2, .int .u64 0, .slice none 0 0] 37)) (some ⟨w.heap.size, 0, none⟩) 2 2 [⟨1, 0, 1, []⟩, ⟨2, 2, 0, []⟩] := by
  refine ⟨rfl, Nat.le_refl _, by decide, .inr ⟨w.heap.size, 0, rfl, fun i x hx => ?_⟩⟩
  match i, hx with
  | 0, hx =>
    cases hx
    exact ⟨none, 0, 0, by rw [World.cell?_alloc_at _ _ _ _ rfl]; rfl, by rw [World.cell?_alloc_at _ _ _ _ rfl]; rfl, by rw [World.cell?_alloc_at _ _ _ _ rfl]; rfl, by rw [World.cell?_alloc_at _ _ _ _ rfl]; rfl, reads_nil _, by decide, by decide⟩
  | 1, hx =>
    cases hx
    exact ⟨none, 0, 0, by rw [World.cell?_alloc_at _ _ _ _ rfl]; rfl, by rw [World.cell?_alloc_at _ _ _ _ rfl]; rfl, by rw [World.cell?_alloc_at _ _ _ _ rfl]; rfl, by rw [World.cell?_alloc_at _ _ _ _ rfl]; rfl, reads_nil _, by decide, by decide⟩
  | i + 2, hx => cases hx

end Go.Proofs.Ytaedbgdjjnkloab
