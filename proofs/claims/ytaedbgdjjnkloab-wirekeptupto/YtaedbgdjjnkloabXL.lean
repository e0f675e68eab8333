/-
  What stays while rows of one's own are written.
-/
import Derived.Test.YtaedbgdjjnkloabXK
namespace Go.Proofs.Ytaedbgdjjnkloab
open Go.RowKit

/-- All old blocks that f names stay. -/
structure Keep (f : Nat → Prop) (w w' : World) : Prop where
  os : w'.os = w.os
  tape : w'.tape = w.tape
  output : w'.output = w.output
  size : w.heap.size ≤ w'.heap.size
  block : ∀ k, k < w.heap.size → f k → w'.heap[k]? = w.heap[k]?
theorem Keep.refl (f : Nat → Prop) (w : World) : Keep f w w := ⟨rfl, rfl, rfl, Nat.le_refl _, fun _ _ _ => rfl⟩
theorem Keep.trans {f : Nat → Prop} {w w1 w2 : World} (h : Keep f w w1) (g : Keep f w1 w2) : Keep f w w2 :=
  ⟨g.os.trans h.os, g.tape.trans h.tape, g.output.trans h.output, Nat.le_trans h.size g.size, fun k hk hf => by rw [g.block k (Nat.lt_of_lt_of_le hk h.size) hf, h.block k hk hf]⟩
theorem Keep.ofBelow {f : Nat → Prop} {w w' : World} (h : Below w.heap.size w w') : Keep f w w' := ⟨h.os, h.tape, h.output, h.size, fun k hk _ => h.block k hk⟩
theorem Keep.ofGrow {f : Nat → Prop} {w w' : World} {v v' : Value} (g : Grow w w' v v') (hv : ∀ k, f k → v.ownBlock ≠ some k) : Keep f w w' := ⟨g.os, g.tape, g.output, g.size, fun k hk hf => g.block k hk (hv k hf)⟩
theorem Keep.below {f : Nat → Prop} {w w' : World} {B : Nat} (h : Keep f w w') (hB : B ≤ w.heap.size) (hf : ∀ k, k < B → f k) : Below B w w' := ⟨h.os, h.tape, h.output, h.size, fun k hk => h.block k (by omega) (hf k hk)⟩
theorem Keep.setCell {f : Nat → Prop} (w : World) (a : Addr) (u : Value) (ha : ¬ f a.block) : Keep f w (w.setCell a u) :=
  ⟨rfl, rfl, rfl, by simp [World.setCell], fun k _ hf => Below.heap_setCell _ _ _ _ (fun e => ha (e ▸ hf))⟩
theorem Keep.weak {f g : Nat → Prop} {w w' : World} (h : Keep f w w') (hg : ∀ k, g k → f k) : Keep g w w' := ⟨h.os, h.tape, h.output, h.size, fun k hk hf => h.block k hk (hg k hf)⟩
theorem own_keep {f : Nat → Prop} {w w' : World} {base e size n : Nat} {v : Value} {xs : List Value} (h : w.ownsRow base e size v n xs) (hv : ∀ k, v.ownBlock = some k → f k) (g : Keep f w w') : w'.ownsRow base e size v n xs := by
  refine ⟨h.1, ?_⟩
  rcases h.2 with hn | ⟨k, cap, cur, rfl, hb, hk, rest⟩
  · exact .inl hn
  · exact .inr ⟨k, cap, cur, rfl, hb, by rw [g.block k (Array.getElem?_eq_some_iff.1 hk).1 (hv k rfl)]; exact hk, rest⟩
theorem OwnL.keep {f : Nat → Prop} {w w' : World} {base : Nat} {v : Value} {es : List (Ent × Value)} (h : OwnL w base v es) (hv : ∀ k, v.ownBlock = some k → f k) (hes : ∀ x ∈ es, ∀ k, x.2.ownBlock = some k → f k) (g : Keep f w w') : OwnL w' base v es :=
  ⟨own_keep h.row hv g, fun x hx => own_keep (h.each x hx) (hes x hx) g⟩
theorem blocks_ne {w : World} {base base' e e' size size' n n' : Nat} {u l : Value} {xs ys : List Value} (h : w.ownsRow base e size u n xs) (hl : w.ownsRow base' e' size' l n' ys) (hne : e ≠ e') (k : Nat) (hk : u.ownBlock = some k) : l.ownBlock ≠ some k := by
  intro e1
  rcases h.2 with ⟨rfl, _⟩ | ⟨k1, cap1, cur1, rfl, _, h1, _⟩
  · cases hk
  · rcases hl.2 with ⟨rfl, _⟩ | ⟨k2, cap2, cur2, rfl, _, h2, _⟩
    · cases e1
    · simp [Value.ownBlock] at hk e1
      subst hk
      subst e1
      rw [h1] at h2
      simp at h2
      exact hne h2.2

/-- One entry's bytes have grown, and the new slice is written into the row. -/
theorem ownL_grow {w w' : World} {B : Nat} {gr rl rc : Nat} {es : List (Ent × Value)} (h : OwnL w B (.slice (some ⟨gr, 0, none⟩) rl rc) es) (ha : Apart es) {i : Nat} {x : Ent} {v v' : Value} {bs : List Int} (hx : es[i]? = some (x, v)) (g : Grow w w' v v')
    (hn : w'.ownsRow B 5 1 v' bs.length (bs.map (Value.int .u8))) :
    OwnL (w'.setCell ⟨gr, i * 4 + 3, none⟩ v') B (.slice (some ⟨gr, 0, none⟩) rl rc) (es.set i (⟨x.num, x.kind, x.n, bs⟩, v')) ∧ Apart (es.set i (⟨x.num, x.kind, x.n, bs⟩, v')) := by
  have hi := h.each _ (List.mem_of_getElem? hx)
  have hil : i < es.length := (List.getElem?_eq_some_iff.1 hx).1
  have hrow := own_other h.row hi (by decide) g
  obtain rfl : rl = es.length := by
    obtain ⟨a, c, e⟩ := own_shape h.row
    simp at e
    exact e.2.1
  refine ⟨⟨?_, fun y hy => ?_⟩, apart_set ha _ hx ?_⟩
  · rw [flat_set es i x v v' bs hx, List.length_set]
    exact (hrow.stored (i * 4 + 3) v').1
  · obtain ⟨k, hk⟩ := List.getElem?_of_mem hy
    rw [List.getElem?_set] at hk
    split at hk
    · simp at hk
      subst hk
      exact ownsRow_setCell_other hn (a := ⟨gr, i * 4 + 3, none⟩) (fun e => blocks_ne hn hrow (by decide) gr e rfl) _
    · have hy' := own_keep (f := fun k => v.ownBlock ≠ some k) (h.each y (List.mem_of_getElem? hk)) (fun b hb e => ha i k _ y b (by omega) hx hk e hb) (Keep.ofGrow g (fun _ h => h))
      exact ownsRow_setCell_other hy' (a := ⟨gr, i * 4 + 3, none⟩) (fun e => blocks_ne hy' hrow (by decide) gr e rfl) _
  · rcases g.own with g1 | g1
    · exact .inl g1
    · exact .inr fun k hk y hy e => by
        have := (h.each y hy).lt k e
        have := g1 k hk
        omega

/-- The cell of the row that holds entry i's bytes. -/
theorem flat_at : ∀ (es : List (Ent × Value)) (i : Nat) (x : Ent) (v : Value), es[i]? = some (x, v) → (flat es)[i * 4 + 3]? = some v
  | [], i, x, v, h => by simp at h
  | y :: r, 0, x, v, h => by simp at h; subst h; simp [flat]
  | y :: r, i + 1, x, v, h => by
    have h' : r[i]? = some (x, v) := by simpa using h
    rw [show (i + 1) * 4 + 3 = i * 4 + 3 + 4 by omega]
    simp [flat, flat_at r i x v h']
theorem ownL_cell {w : World} {B gr rl rc : Nat} {es : List (Ent × Value)} (h : OwnL w B (.slice (some ⟨gr, 0, none⟩) rl rc) es) {i : Nat} {x : Ent} {v : Value} (hx : es[i]? = some (x, v)) : w.cell? ⟨gr, i * 4 + 3, none⟩ = some v ∧ w.frozen? ⟨gr, i * 4 + 3, none⟩ = false := by
  have hl := flat_at es i x v hx
  obtain rfl : rl = es.length := by
    obtain ⟨a, c, e⟩ := own_shape h.row
    simp at e
    exact e.2.1
  have hil : i < es.length := (List.getElem?_eq_some_iff.1 hx).1
  exact ⟨(h.row.cellAt _ (by omega)).trans hl, h.row.frozenAt _⟩
end Go.Proofs.Ytaedbgdjjnkloab
