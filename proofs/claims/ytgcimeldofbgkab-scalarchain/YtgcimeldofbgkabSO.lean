/-
  P3.2: the law's walk.
-/
import Derived.Test.YtgcimeldofbgkabSN
namespace Go.Proofs.Ytgcimeldofbgkab
open Go.RowKit
set_option maxRecDepth 1000000
set_option maxHeartbeats 4000000

theorem cell_kept {w w' : World} {b o : Nat} {x : Value} (hb : Below w.heap.size w w') (h : w.cell? ⟨b, o, none⟩ = some x) : w'.cell? ⟨b, o, none⟩ = some x := by
  rw [hb.cell (p := ⟨b, o, none⟩) (World.block_lt_of_cell? _ _ h)]; exact h
theorem block_lt {w : World} {b o : Nat} {x : Value} (h : w.cell? ⟨b, o, none⟩ = some x) : b < w.heap.size := World.block_lt_of_cell? _ _ h
theorem same3Yes (a1 a2 : Option Addr) (l1 c1 l2 c2 : Nat) (xs : List Int) (w : World) (h1 : Reads w a1 l1 c1 xs) (h2 : Reads w a2 l2 c2 xs) :
    Calls Try.prog 10 #[.slice a1 l1 c1, .slice a2 l2 c2] w fun e w' => e = .returned (.bool true) ∧ w = w' :=
  (same3W a1 a2 l1 c1 l2 c2 xs xs w h1 h2).mono fun e w' h => ⟨by rw [h.1]; simp, h.2⟩
section
variable (k n p : Int) (a am ax : Option Addr) (len cap lm cm lx cx : Nat) (xs ys : List Int) (w : World)
end
end Go.Proofs.Ytgcimeldofbgkab
