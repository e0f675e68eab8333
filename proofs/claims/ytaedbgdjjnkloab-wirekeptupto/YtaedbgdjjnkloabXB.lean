/-
  The walk of the law WireBack.
-/
import Derived.Test.YtaedbgdjjnkloabWY
import Derived.Test.YtaedbgdjjnkloabM7
namespace Go.Proofs.Ytaedbgdjjnkloab
open Go.RowKit

/-- Appending bytes that can be read in W to what was built since W. -/
theorem cat (W : World) (v : Value) (n : Nat) (xs : List Int) (w1 : World) (a : Option Addr) (len cap : Nat) (ys : List Int) (hown : w1.ownsRow W.heap.size 5 1 v n (xs.map (Value.int .u8))) (hb : Below W.heap.size W w1) (hr : Reads W a len cap ys) (hn : n + len ≤ 140737488355328) :
    ∃ v' w', (Builtin.append_ #[23, 23] 23 #[v, .slice a len cap]).run Try.prog w1 = .ok v' w' ∧ w'.ownsRow W.heap.size 5 1 v' (n + len) ((xs ++ ys).map (Value.int .u8)) ∧ Below W.heap.size W w' := by
  obtain ⟨v', w', h1, h2, h3⟩ := append_bytes W.heap.size v n _ w1 a len cap ys hown hb.size (reads_kept hr hb) hn
  refine ⟨v', w', h1, by rw [List.map_append]; exact h2, hb.trans (h3.below hb.size (fun k hk => (hown.lt k hk).1))⟩
theorem own_empty (W : World) : (W.alloc (.cells #[] 5)).ownsRow W.heap.size 5 1 (.slice (some ⟨W.heap.size, 0, none⟩) 0 0) 0 (([] : List Int).map (Value.int .u8)) :=
  World.ownsRow_made W #[] 0 (Nat.le_refl _) (by unfold maxLen; omega) rfl

end Go.Proofs.Ytaedbgdjjnkloab
