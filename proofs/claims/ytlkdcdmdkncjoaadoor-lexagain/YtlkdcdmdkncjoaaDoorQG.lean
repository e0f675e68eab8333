/-
  Walks over the document's Quote.
-/
import Derived.Test.YtlkdcdmdkncjoaaDoorQF
namespace Go.Proofs.YtlkdcdmdkncjoaaDoor
open Go.RowKit
set_option maxRecDepth 1000000

theorem own_one (W : World) (x : Int) : (W.alloc (.cells #[.int .u8 x] 5)).ownsRow W.heap.size 5 1 (.slice (some ⟨W.heap.size, 0, none⟩) 1 1) 1 (([x] : List Int).map (Value.int .u8)) :=
  ⟨rfl, .inr ⟨W.heap.size, 1, #[.int .u8 x], rfl, Nat.le_refl _, heap_alloc_new W _, Nat.le_refl _, by unfold maxLen; omega, rfl, rfl⟩⟩

/-- How far the loop is. -/
def Quoting (w : World) (xs : List Int) (len : Nat) (o r : Value) (wr : World) : Prop := ∃ (k n : Nat) (ps : List Int), k ≤ len ∧ r = .int .i64 k ∧ n ≤ 1 + 4 * k ∧ Hid (ps.length = n) ∧ Hid (wr.ownsRow w.heap.size 5 1 o n (ps.map (Value.int .u8))) ∧ Hid (ps = 34 :: (xs.take k).flatMap qp) ∧ Hid (Below w.heap.size w wr)
theorem quote_next {w wr w' : World} {xs ps : List Int} {len k n : Nat} {o o' : Value} {c : Int} (_hk : k ≤ len) (hn : n ≤ 1 + 4 * k) (HN : ps.length = n) (HO : wr.ownsRow w.heap.size 5 1 o n (ps.map (Value.int .u8))) (HP : ps = 34 :: (xs.take k).flatMap qp) (HB : Below w.heap.size w wr)
    (hx : k < xs.length) (hlt : k < len) (hcc : xs[k]?.getD 0 = c) (ho' : w'.ownsRow w.heap.size 5 1 o' (n + (qp c).length) (ps.map (Value.int .u8) ++ (qp c).map (Value.int .u8))) (hg' : Grow wr w' o o') : Quoting w xs len o' (.int .i64 ((k : Int) + 1)) w' := by
  have hq := qp_len c
  refine ⟨k + 1, n + (qp c).length, ps ++ qp c, by omega, rfl, by omega, hid (by rw [List.length_append, HN]), hid (by rw [List.map_append]; exact ho'), hid ?_, hid (HB.trans (hg'.below HB.size (fun j hj => (HO.lt j hj).1)))⟩
  rw [flat_snoc hx, hcc, HP]
  rfl

end Go.Proofs.YtlkdcdmdkncjoaaDoor
