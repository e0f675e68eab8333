/-
  Walks over PutEntry, the program's and the document's.
-/
import Derived.Test.YtaedbgdjjnkloabWO
namespace Go.Proofs.Ytaedbgdjjnkloab
open Go.RowKit

/-- The bytes of an entry; none where it has a fault. -/
def pp (num kind n : Int) (ys : List Int) : List Int := if ef num kind n ys.length = 0 then pe num kind n ys else []

theorem own_kept {w w' : World} {base e size n : Nat} {v : Value} {xs : List Value} (h : w.ownsRow base e size v n xs) (hb : Below w.heap.size w w') : w'.ownsRow base e size v n xs :=
  h.kept (row := none) ⟨hb.os, hb.tape, hb.output, hb.size, fun k hk _ => hb.block k hk⟩ (by cases hv : v.ownBlock <;> simp)
theorem own_mono {w : World} {base base' e size n : Nat} {v : Value} {xs : List Value} (h : w.ownsRow base e size v n xs) (hb : base' ≤ base) : w.ownsRow base' e size v n xs := by
  refine ⟨h.1, h.2.imp id ?_⟩
  rintro ⟨g, cap, cur, h1, h2, h3⟩
  exact ⟨g, cap, cur, h1, Nat.le_trans hb h2, h3⟩
theorem own_cat3 {w : World} {base : Nat} {v : Value} {ps ys zs : List Int} (h : w.ownsRow base 5 1 v (ps.length + ys.length) (ps.map (Value.int .u8) ++ ys.map (Value.int .u8))) (e : zs = ps ++ ys) :
    w.ownsRow base 5 1 v zs.length (zs.map (Value.int .u8)) := by
  subst e
  simpa using h

end Go.Proofs.Ytaedbgdjjnkloab
