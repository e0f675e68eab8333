/-
  The reader of the program lex: its block of eight cells; its small calls.
-/
import Derived.Test.YtlkdcdmdkncjoaaDoorYA
import Derived.Test.YtlkdcdmdkncjoaaDoorQH
import Derived.Test.YtlkdcdmdkncjoaaDoorShelf
import Derived.BigQuiet
import Derived.Deep.QuietTactic
import Derived.Deep.RegionWith
import Derived.ScopeJumps
namespace Go.Proofs.YtlkdcdmdkncjoaaDoor
open Go.RowKit
set_option maxRecDepth 1000000

/-- All old blocks that f names stay. -/
structure Keep (f : Nat → Prop) (w w' : World) : Prop where
  os : w'.os = w.os
  tape : w'.tape = w.tape
  output : w'.output = w.output
  size : w.heap.size ≤ w'.heap.size
  block : ∀ k, k < w.heap.size → f k → w'.heap[k]? = w.heap[k]?
theorem Keep.refl (f : Nat → Prop) (w : World) : Keep f w w := ⟨rfl, rfl, rfl, Nat.le_refl _, fun _ _ _ => rfl⟩
theorem Keep.trans {f : Nat → Prop} {w w1 w2 : World} (h : Keep f w w1) (g : Keep f w1 w2) : Keep f w w2 :=
  ⟨g.os.trans h.os, g.tape.trans h.tape, g.output.trans h.output, Nat.le_trans h.size g.size, fun k hk hf => by rw [g.block k (Nat.lt_of_lt_of_le hk h.size) hf, h.block k hk hf]⟩
theorem Keep.ofBelow {f : Nat → Prop} {w w' : World} (h : Below w.heap.size w w') : Keep f w w' := ⟨h.os, h.tape, h.output, h.size, fun k hk _ => h.block k hk⟩
theorem Keep.ofGrow {f : Nat → Prop} {w w' : World} {v v' : Value} (g : Grow w w' v v') (hv : ∀ k, f k → v.ownBlock ≠ some k) : Keep f w w' := ⟨g.os, g.tape, g.output, g.size, fun k hk hf => g.block k hk (hv k hf)⟩
theorem Keep.below {f : Nat → Prop} {w w' : World} {B : Nat} (h : Keep f w w') (hB : B ≤ w.heap.size) (hf : ∀ k, k < B → f k) : Below B w w' := ⟨h.os, h.tape, h.output, h.size, fun k hk => h.block k (by omega) (hf k hk)⟩
theorem Keep.setCell {f : Nat → Prop} (w : World) (a : Addr) (u : Value) (ha : ¬ f a.block) : Keep f w (w.setCell a u) :=
  ⟨rfl, rfl, rfl, by simp [World.setCell], fun k _ hf => Below.heap_setCell _ _ _ _ (fun e => ha (e ▸ hf))⟩
theorem Keep.weak {f g : Nat → Prop} {w w' : World} (h : Keep f w w') (hg : ∀ k, g k → f k) : Keep g w w' := ⟨h.os, h.tape, h.output, h.size, fun k hk hf => h.block k hk (hg k hf)⟩

/-- A block of cells that may be written. -/
def Blk (w : World) (p : Nat) (t : TypeId) (cs : Array Value) : Prop := w.heap[p]? = some (.cells cs t (0, 0))
theorem Blk.lt {w : World} {p : Nat} {t : TypeId} {cs : Array Value} (h : Blk w p t cs) : p < w.heap.size := (Array.getElem?_eq_some_iff.1 h).1
theorem Blk.cell {w : World} {p : Nat} {t : TypeId} {cs : Array Value} (h : Blk w p t cs) (i : Nat) (v : Value) (hv : cs[i]? = some v) : w.cell? ⟨p, i, none⟩ = some v := by
  simp only [World.cell?, show w.heap[p]? = _ from h]; simpa using hv
theorem Blk.frozen {w : World} {p : Nat} {t : TypeId} {cs : Array Value} (h : Blk w p t cs) (i : Nat) : w.frozen? ⟨p, i, none⟩ = false := by
  simp [World.frozen?, show w.heap[p]? = _ from h]
theorem Blk.set {w : World} {p : Nat} {t : TypeId} {cs : Array Value} (h : Blk w p t cs) (i : Nat) (v : Value) : Blk (w.setCell ⟨p, i, none⟩ v) p t (cs.setIfInBounds i v) := by
  obtain ⟨hlt, hk⟩ := Array.getElem?_eq_some_iff.1 h
  show (w.heap.modify p _)[p]? = _
  rw [Array.getElem?_eq_getElem (by rw [Array.size_modify]; exact hlt), Array.getElem_modify_self, hk]
  rfl
theorem Blk.new (w : World) (t : TypeId) (cs : Array Value) : Blk (w.alloc (.cells cs t)) w.heap.size t cs := by show (w.heap.push _)[w.heap.size]? = _; simp
theorem Blk.kept {w w' : World} {p : Nat} {t : TypeId} {cs : Array Value} (h : Blk w p t cs) (hb : Below w.heap.size w w') : Blk w' p t cs := (hb.block p h.lt).trans h
theorem Blk.keep {f : Nat → Prop} {w w' : World} {p : Nat} {t : TypeId} {cs : Array Value} (h : Blk w p t cs) (hb : Keep f w w') (hf : f p) : Blk w' p t cs := (hb.block p h.lt hf).trans h
theorem Blk.other {w : World} {p : Nat} {t : TypeId} {cs : Array Value} (h : Blk w p t cs) {a : Addr} (ha : p ≠ a.block) (v : Value) : Blk (w.setCell a v) p t cs := (Below.heap_setCell _ _ _ _ ha).trans h

/-- The reader: the text, where the word began (place and line), where it is, what it kept. -/
structure Rd (w : World) (p : Nat) (xs : List Int) (fr : Nat) (bl bc : Int) (i : Nat) (kept : Value) : Prop where
  blk : Blk w p 46 #[.string (strOfNums xs), .int .i64 fr, .int .i64 i, .int .i64 bl, .int .i64 bc, .int .i64 (lnA xs i), .int .i64 (clA xs i), kept]
section
variable {w w' : World} {p : Nat} {xs : List Int} {fr : Nat} {bl bc : Int} {i : Nat} {kp : Value}
theorem Rd.cells (h : Rd w p xs fr bl bc i kp) : w.cell? ⟨p, 0, none⟩ = some (.string (strOfNums xs)) ∧ w.cell? ⟨p, 1, none⟩ = some (.int .i64 fr) ∧ w.cell? ⟨p, 2, none⟩ = some (.int .i64 i) ∧ w.cell? ⟨p, 3, none⟩ = some (.int .i64 bl) ∧ w.cell? ⟨p, 4, none⟩ = some (.int .i64 bc) ∧
    w.cell? ⟨p, 5, none⟩ = some (.int .i64 (lnA xs i)) ∧ w.cell? ⟨p, 6, none⟩ = some (.int .i64 (clA xs i)) ∧ w.cell? ⟨p, 7, none⟩ = some kp :=
  ⟨h.blk.cell 0 _ rfl, h.blk.cell 1 _ rfl, h.blk.cell 2 _ rfl, h.blk.cell 3 _ rfl, h.blk.cell 4 _ rfl, h.blk.cell 5 _ rfl, h.blk.cell 6 _ rfl, h.blk.cell 7 _ rfl⟩
theorem Rd.kept (h : Rd w p xs fr bl bc i kp) (hb : Below w.heap.size w w') : Rd w' p xs fr bl bc i kp := ⟨h.blk.kept hb⟩
theorem below_drewN (w : World) (n : Nat) : Below w.heap.size w (w.drewN n) := ⟨rfl, rfl, rfl, Nat.le_refl _, fun _ _ => rfl⟩
theorem below_drew1 (w : World) : Below w.heap.size w w.drew := ⟨rfl, rfl, rfl, Nat.le_refl _, fun _ _ => rfl⟩
theorem bt_index {xs : List Int} (hb : ∀ x ∈ xs, 0 ≤ x ∧ x ≤ 255) (i : Nat) (h : i < xs.length) (k : IntKind) (W : World) : (Instr.index 9 (.string (strOfNums xs)) (.int k (i : Int))).run Tryd.prog W = .ok (.int .u8 (bt xs i)) W := index_str hb i h k W
end
section
variable (p : Nat) (xs : List Int) (fr : Nat) (bl bc : Int) (i : Nat) (kept : Value) (w : World)
set_option maxHeartbeats 1000000
theorem endedW (h : Rd w p xs fr bl bc i kept) : Calls Tryd.prog 23 #[.pointer (some ⟨p, 0, none⟩)] w fun e w' => e = .returned (.bool (decide (i = xs.length))) ∧ Below w.heap.size w w' := by
  obtain ⟨c0, _, c2, _⟩ := h.cells
  have hs : (strOfNums xs).size = xs.length := strOfNums_size xs
  have he : ((i : Int) == (xs.length : Int)) = decide (i = xs.length) := by rw [Bool.eq_iff_iff]; simp; omega
  have HE := hid he
  clear he h
  go_enter Tryd.func23, Tryd.ntmps23
  go_wp2
  go_quiet (fail)
  go_wp2
  go_ret
  exact ⟨ret_bool HE.out, below_drewN _ _⟩
end
end Go.Proofs.YtlkdcdmdkncjoaaDoor
