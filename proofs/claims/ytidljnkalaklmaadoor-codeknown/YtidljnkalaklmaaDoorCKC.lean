/-
  Steps laid one behind the other.
  A step whose place is known later.
  A Case and what follows it.
  What follows a Case.
  What follows a Case, and what is written.
  What is written of a field.
  A message's steps: Enc, Dec.
  A message's steps: Enc.
  Rows, sorted.
  An enum's rows.
  The names of a message's oneofs and fields.
  Fields are found by halving.
  Ranges that are free.
  A message by itself; a type by itself.
  A type by itself.
  A name cut at its dots.
  A full name: its names, and how many.
  The names ahead, in a map.
  What is around a type.
  A table is good: what the program answers.
  A type's block.
  LowerType.
  Lower.
  Steps and rows compared.
  Blocks that are the same: the document's question.
  What a valid program's steps are asked: where all is well.
  code: the operations.
  code: an operation by its number; a step's numbers.
  What holds of bytes wherever they lie: rows that can be read, rows of one's own, appending to them. Nothing of the program's functions.
  Plain mathematics for the layer wire: the digits of a varint, reading them, zigzag; nothing of the program.
-/
import Derived.Test.YtidljnkalaklmaaDoorCTA
import Derived.Deep.RegionHeld3
import Derived.Laws.BitsLemmas
import Derived.Test.YtidljnkalaklmaaDoorShelf
import Derived.Lib.BitFns
import Derived.Laws.StructEq
import Derived.Deep.WholeRow
import Derived.Test.YtidljnkalaklmaaDoorRows
import Derived.RowKit
import Derived.Laws.BytesArg
import Derived.WalkKit
import Derived.WalkSpells
import Derived.WalkLawsBesides
import Derived.Outline
import Derived.Below
import Derived.WalkMore
import Derived.Laws.MakeOwn
import Derived.OwnWalk
import Derived.Laws.AppendOwnNone
import Derived.OpenShut
import Derived.Lib.VarintBits
import Derived.Lib.Zigzag
namespace Go.Proofs.YtidljnkalaklmaaDoor
open Go.RowKit
set_option maxRecDepth 1000000
set_option linter.unusedVariables false
set_option linter.unusedSimpArgs false
set_option maxHeartbeats 1000000
theorem step_append_ran {P : Program} {ops : Array Oper} {o : Oper} {a : Act} {w : World} {K : Act → World → Prop} {Q : Exit → Act → World → Prop} {E : Prop}
    (hg : o.guard = none) (s x : Operand) (t ty : TypeId) (hop : o.op = Op.call { callee := Callee.builtin Builtin.append, args := #[s, x], argTypes := #[t, t] }) (hty : o.type = ty)
    (v xv v' : Value) (w' : World) (hs : a.eval s = v) (hx : a.eval x = xv) (hr : (Builtin.append_ #[t, t] ty #[v, xv]).run P w = .ok v' w') (hK : K (a.put o.dst v') w') :
    if Region.wanted o (yielded ops a.tmps) = true then Oper.wp P o a w K Q else E := by
  have hw : Region.wanted o (yielded ops a.tmps) = true := by simp [Region.wanted, hg]
  rw [if_pos hw]
  subst hty
  unfold Oper.wp
  simp [execOp, hop, resolve, invoke, builtin, hs, hx, hr, Result.andThen]
  exact hK
/-- What stays where steps are laid: all below base, and all else but the layout and rows of steps. -/
structure LF (base p : Nat) (w w' : World) : Prop where
  os : w'.os = w.os
  tape : w'.tape = w.tape
  output : w'.output = w.output
  size : w.heap.size ≤ w'.heap.size
  block : ∀ k, k < w.heap.size → k < base ∨ (k ≠ p ∧ ∀ cs fr, w.heap[k]? ≠ some (.cells cs 42 fr)) → w'.heap[k]? = w.heap[k]?
theorem LF.refl (base p : Nat) (w : World) : LF base p w w := ⟨rfl, rfl, rfl, Nat.le_refl _, fun _ _ _ => rfl⟩
theorem LF.trans {base p : Nat} {w w1 w2 : World} (h : LF base p w w1) (g : LF base p w1 w2) : LF base p w w2 :=
  ⟨g.os.trans h.os, g.tape.trans h.tape, g.output.trans h.output, Nat.le_trans h.size g.size, fun k hk hf => by
    have e := h.block k hk hf
    rw [g.block k (Nat.lt_of_lt_of_le hk h.size) (hf.imp id fun ⟨h1, h2⟩ => ⟨h1, fun cs fr => by rw [e]; exact h2 cs fr⟩), e]⟩
theorem LF.ofBelow {base p : Nat} {w w' : World} (h : Below w.heap.size w w') : LF base p w w' := ⟨h.os, h.tape, h.output, h.size, fun k hk _ => h.block k hk⟩
theorem LF.below {base p : Nat} {w w' : World} (h : LF base p w w') (hb : base ≤ w.heap.size) : Below base w w' := ⟨h.os, h.tape, h.output, h.size, fun k hk => h.block k (by omega) (.inl hk)⟩
theorem LF.set {base p : Nat} (w : World) (i : Nat) (v : Value) (hp : base ≤ p) : LF base p w (w.setCell ⟨p, i, none⟩ v) :=
  ⟨rfl, rfl, rfl, by simp [World.setCell], fun k hk hf => Below.heap_setCell _ _ _ _ (fun e => by
    have e' : k = p := e
    rcases hf with hf | ⟨hf, _⟩
    · omega
    · exact hf e')⟩
theorem LF.pre {base p : Nat} {w w1 w2 : World} (g : LF base p w1 w2) (hb : Below w.heap.size w w1) : LF base p w w2 := (LF.ofBelow hb).trans g
def ints (ns : List Int) : Array Value := (ns.map (fun n => Value.int .i64 n)).toArray
theorem rowOf' {w : World} {b : Nat} {t : TypeId} {cs : Array Value} (B : Blk w b t cs) (k n : Nat) (fl : List Value) (h : cs = fl.toArray) (hl : fl.length = n * k) (hn : n ≤ 9223372036854775807) : RowS w AnyZ k (.slice (some ⟨b, 0, none⟩) n n) n fl :=
  ⟨some ⟨b, 0, none⟩, n, rfl, hl, Nat.le_refl _, hn, .inr ⟨b, 0, rfl, trivial, fun j u hu => by
    rw [Nat.zero_add]
    exact B.cell j u (by rw [h, List.getElem?_toArray]; exact hu)⟩⟩
theorem mapI : ∀ ns : List Int, ns.map (fun n => Value.int .i64 n) = ns.flatMap cI64
  | [] => rfl
  | a :: r => by rw [List.map_cons, List.flatMap_cons, mapI r]; rfl
theorem ints_row {w : World} {b : Nat} (ns : List Int) (hl : ns.length ≤ 4) (B : Blk w b 3 (ints ns)) : RowS w AnyZ 1 (.slice (some ⟨b, 0, none⟩) ns.length ns.length) ns.length (ns.flatMap cI64) :=
  rowOf' B 1 ns.length _ (by unfold ints; congr 1; exact mapI ns) (flatM_len (g := cI64) (fun _ => rfl) ns) (by omega)
end Go.Proofs.YtidljnkalaklmaaDoor
namespace Go.Proofs.YtidljnkalaklmaaDoor
open Go.RowKit
set_option maxRecDepth 1000000
set_option linter.unusedVariables false
set_option linter.unusedSimpArgs false
set_option maxHeartbeats 1000000
end Go.Proofs.YtidljnkalaklmaaDoor
namespace Go.Proofs.YtidljnkalaklmaaDoor
open Go.RowKit
set_option maxRecDepth 1000000
set_option linter.unusedVariables false
set_option linter.unusedSimpArgs false
set_option maxHeartbeats 1000000
theorem wraps_i64 (n : Int) (h0 : 0 ≤ n) (h1 : n < 2 ^ 62) : IntKind.i64.wrap n = n := by
  simp [IntKind.wrap, IntKind.bits, IntKind.signed]
  omega
end Go.Proofs.YtidljnkalaklmaaDoor
namespace Go.Proofs.YtidljnkalaklmaaDoor
open Go.RowKit
set_option maxRecDepth 1000000
set_option linter.unusedVariables false
set_option linter.unusedSimpArgs false
set_option maxHeartbeats 1000000
theorem LF.keep {base p : Nat} {w w' : World} (h : LF base p w w') (hb : base ≤ w.heap.size) : Keep (· < base) w w' := ⟨h.os, h.tape, h.output, h.size, fun k hk hf => h.block k hk (.inl hf)⟩
end Go.Proofs.YtidljnkalaklmaaDoor
namespace Go.Proofs.YtidljnkalaklmaaDoor
open Go.RowKit
set_option maxRecDepth 1000000
set_option linter.unusedVariables false
set_option linter.unusedSimpArgs false
set_option maxHeartbeats 1000000
end Go.Proofs.YtidljnkalaklmaaDoor
namespace Go.Proofs.YtidljnkalaklmaaDoor
open Go.RowKit
set_option maxRecDepth 1000000
set_option linter.unusedVariables false
set_option linter.unusedSimpArgs false
set_option maxHeartbeats 1000000
end Go.Proofs.YtidljnkalaklmaaDoor
namespace Go.Proofs.YtidljnkalaklmaaDoor
open Go.RowKit
set_option maxRecDepth 1000000
set_option linter.unusedVariables false
set_option linter.unusedSimpArgs false
set_option maxHeartbeats 1000000
theorem cf_enter {f : FuncId} {fn : Func} (hf : Tryd.prog.funcs[f]? = some fn) (hname : (fn.name == "runtime.NumGoroutine") = false) (hb : fn.body.isNone = false) (args : Array Value) (W : World) : (callFunc f args).run Tryd.prog W = .ok (.enter f args) W := by
  unfold callFunc
  simp only [Sem.run_bind, run_program, Result.andThen_ok, hf, hname, hb, Bool.false_eq_true, if_false, Sem.run_pure]
end Go.Proofs.YtidljnkalaklmaaDoor
namespace Go.Proofs.YtidljnkalaklmaaDoor
open Go.RowKit
set_option maxRecDepth 1000000
set_option linter.unusedVariables false
set_option linter.unusedSimpArgs false
set_option maxHeartbeats 1000000
end Go.Proofs.YtidljnkalaklmaaDoor
namespace Go.Proofs.YtidljnkalaklmaaDoor
open Go.RowKit
set_option maxRecDepth 1000000
set_option linter.unusedVariables false
set_option linter.unusedSimpArgs false
set_option maxHeartbeats 1000000
end Go.Proofs.YtidljnkalaklmaaDoor
namespace Go.Proofs.YtidljnkalaklmaaDoor
open Go.RowKit
set_option maxRecDepth 1000000
set_option linter.unusedVariables false
set_option linter.unusedSimpArgs false
set_option maxHeartbeats 1000000
end Go.Proofs.YtidljnkalaklmaaDoor
namespace Go.Proofs.YtidljnkalaklmaaDoor
open Go.RowKit
set_option maxRecDepth 1000000
set_option linter.unusedVariables false
set_option linter.unusedSimpArgs false
set_option maxHeartbeats 1000000
end Go.Proofs.YtidljnkalaklmaaDoor
namespace Go.Proofs.YtidljnkalaklmaaDoor
open Go.RowKit
set_option maxRecDepth 1000000
set_option linter.unusedVariables false
set_option linter.unusedSimpArgs false
set_option maxHeartbeats 600000
/-- Numbers rise. -/
def Rise (fs : List FT) : Prop := ∀ i j, i < j → ∀ (hj : j < fs.length) (hi : i < fs.length), fs[i].num < fs[j].num
/-- While it halves. -/
structure Halv (fs : List FT) (n : Int) (k first left : Nat) : Prop where
  le : left ≤ 2 ^ k
  one : 1 ≤ left
  fit : first + left ≤ fs.length
  up : ∀ i, first + left ≤ i → ∀ (h : i < fs.length), n < fs[i].num
  lo : first = 0 ∨ ∀ (h : first < fs.length), fs[first].num ≤ n
theorem Halv.no {fs : List FT} {n : Int} {k first left : Nat} (h : Halv fs n (k + 1) first left) (hr : Rise fs) (h0 : 2 ≤ left) (hq : ∀ (q : first + left / 2 < fs.length), n < fs[first + left / 2].num) : Halv fs n k first (left - left / 2) := by
  have h1 := h.le
  have h2 := h.one
  have h3 := h.fit
  rw [Nat.pow_succ] at h1
  refine ⟨by omega, by omega, by omega, fun i hi hh => ?_, h.lo⟩
  by_cases e : i = first + left / 2
  · subst e; exact hq hh
  · by_cases hl : i < first + left / 2
    · omega
    · exact Int.lt_trans (hq (by omega)) (hr _ _ (by omega) hh (by omega))
theorem Halv.still {fs : List FT} {n : Int} {k first left : Nat} (h : Halv fs n (k + 1) first left) (h0 : left = 1) : Halv fs n k first (left - left / 2) := by
  subst h0
  exact ⟨Nat.one_le_two_pow, by decide, h.fit, h.up, h.lo⟩
/-- What lastUpTo answers. -/
def LutR (fs : List FT) (n : Int) (w : World) (e : Ending) (w' : World) : Prop := ((e = .returned (.tuple #[.agg #[.string ⟨#[]⟩, .int .i64 0, .int .i64 0, .int .i64 0, .int .i64 0, .int .i64 0, .int .i64 0], .bool false]) ∧ (∀ i, ∀ (h : i < fs.length), n < fs[i].num)) ∨ (∃ (k : Nat) (hk : k < fs.length), e = .returned (.tuple #[.agg #[.string (strOfNums fs[k].name), .int .i64 fs[k].num, .int .i64 fs[k].kind, .int .i64 fs[k].ref, .int .i64 fs[k].lab, .int .i64 fs[k].one, .int .i64 fs[k].key], .bool true]) ∧ fs[k].num ≤ n ∧ ∀ i, k < i → ∀ (h : i < fs.length), n < fs[i].num)) ∧ Below w.heap.size w w'
theorem LutR.no {fs : List FT} {n : Int} {w w' : World} (h : ∀ i, ∀ (h : i < fs.length), n < fs[i].num) (hb : Below w.heap.size w w') : LutR fs n w (.returned (.tuple #[.agg #[.string ⟨#[]⟩, .int .i64 0, .int .i64 0, .int .i64 0, .int .i64 0, .int .i64 0, .int .i64 0], .bool false])) w' := ⟨.inl ⟨rfl, h⟩, hb⟩
end Go.Proofs.YtidljnkalaklmaaDoor
namespace Go.Proofs.YtidljnkalaklmaaDoor
open Go.RowKit
set_option maxRecDepth 1000000
set_option linter.unusedVariables false
set_option linter.unusedSimpArgs false
set_option maxHeartbeats 600000
end Go.Proofs.YtidljnkalaklmaaDoor
namespace Go.Proofs.YtidljnkalaklmaaDoor
open Go.RowKit
set_option maxRecDepth 1000000
set_option linter.unusedVariables false
set_option linter.unusedSimpArgs false
set_option maxHeartbeats 1000000
end Go.Proofs.YtidljnkalaklmaaDoor
namespace Go.Proofs.YtidljnkalaklmaaDoor
open Go.RowKit
set_option maxRecDepth 1000000
set_option linter.unusedVariables false
set_option linter.unusedSimpArgs false
set_option maxHeartbeats 1000000
end Go.Proofs.YtidljnkalaklmaaDoor
namespace Go.Proofs.YtidljnkalaklmaaDoor
open Go.RowKit
set_option maxRecDepth 1000000
set_option linter.unusedVariables false
set_option linter.unusedSimpArgs false
set_option maxHeartbeats 1000000
end Go.Proofs.YtidljnkalaklmaaDoor
namespace Go.Proofs.YtidljnkalaklmaaDoor
open Go.RowKit
set_option maxRecDepth 1000000
set_option linter.unusedVariables false
set_option linter.unusedSimpArgs false
set_option maxHeartbeats 1000000
end Go.Proofs.YtidljnkalaklmaaDoor
namespace Go.Proofs.YtidljnkalaklmaaDoor
open Go.RowKit
set_option maxRecDepth 1000000
set_option linter.unusedVariables false
set_option linter.unusedSimpArgs false
set_option maxHeartbeats 1000000
end Go.Proofs.YtidljnkalaklmaaDoor
namespace Go.Proofs.YtidljnkalaklmaaDoor
open Go.RowKit
set_option maxRecDepth 1000000
set_option linter.unusedVariables false
set_option linter.unusedSimpArgs false
set_option maxHeartbeats 1000000
end Go.Proofs.YtidljnkalaklmaaDoor
namespace Go.Proofs.YtidljnkalaklmaaDoor
open Go.RowKit
set_option maxRecDepth 1000000
set_option linter.unusedVariables false
set_option linter.unusedSimpArgs false
set_option maxHeartbeats 1000000
end Go.Proofs.YtidljnkalaklmaaDoor
namespace Go.Proofs.YtidljnkalaklmaaDoor
open Go.RowKit
set_option maxRecDepth 1000000
set_option linter.unusedVariables false
set_option linter.unusedSimpArgs false
set_option maxHeartbeats 1000000
structure BK where
  dec : List IN
  enc : List IN
  rows : List LN
/-- A block of one's own. -/
structure BkO (w : World) (base : Nat) (k : BK) (d e r : Value) : Prop where
  hd : w.ownsRow base 42 5 d k.dec.length (k.dec.flatMap cIN)
  he : w.ownsRow base 42 5 e k.enc.length (k.enc.flatMap cIN)
  hr : w.ownsRow base 34 2 r k.rows.length (k.rows.flatMap cLN)
  ap : ∀ b, d.ownBlock = some b → e.ownBlock ≠ some b
theorem BkO.kept {w w' : World} {base : Nat} {k : BK} {d e r : Value} (h : BkO w base k d e r) (g : Below w.heap.size w w') : BkO w' base k d e r := ⟨own_kept h.hd g, own_kept h.he g, own_kept h.hr g, h.ap⟩
theorem BkO.mono {w : World} {base base' : Nat} {k : BK} {d e r : Value} (h : BkO w base k d e r) (g : base' ≤ base) : BkO w base' k d e r := ⟨own_mono h.hd g, own_mono h.he g, own_mono h.hr g, h.ap⟩
theorem rowOldP {w : World} {Z : Nat → Prop} {k : Nat} {v : Value} {n : Nat} {fl : List Value} (hk : 0 < k) (h : RowS w Z k v n fl) : RowS w (fun b => b < w.heap.size) k v n fl := by
  obtain ⟨a, c, e, h⟩ := h
  refine ⟨a, c, e, h.length, h.le, h.max, ?_⟩
  rcases h.cells with h0 | ⟨b, off, rfl, hz, hc⟩
  · exact .inl h0
  · by_cases hn : n = 0
    · exact .inl ⟨hn, fun q => by cases q⟩
    · have hlt : 0 < fl.length := by rw [h.length]; exact Nat.mul_pos (by omega) hk
      exact .inr ⟨b, off, rfl, World.block_lt_of_cell? _ _ (hc 0 _ (List.getElem?_eq_getElem hlt)), hc⟩
end Go.Proofs.YtidljnkalaklmaaDoor
namespace Go.Proofs.YtidljnkalaklmaaDoor
open Go.RowKit
set_option maxRecDepth 1000000
set_option linter.unusedVariables false
set_option linter.unusedSimpArgs false
set_option maxHeartbeats 1000000
end Go.Proofs.YtidljnkalaklmaaDoor
namespace Go.Proofs.YtidljnkalaklmaaDoor
open Go.RowKit
set_option maxRecDepth 1000000
set_option linter.unusedVariables false
set_option linter.unusedSimpArgs false
set_option maxHeartbeats 1000000
/-- A block and the values of its three lists. -/
structure BV where
  k : BK
  d : Value
  e : Value
  r : Value
def cBV (x : BV) : List Value := [x.d, x.e, x.r]
structure LwO (w : World) (base : Nat) (v : Value) (xs : List BV) : Prop where
  row : w.ownsRow base 38 3 v xs.length (xs.flatMap cBV)
  el : ∀ x ∈ xs, BkO w base x.k x.d x.e x.r
theorem LwO.kept {w w' : World} {base : Nat} {v : Value} {xs : List BV} (h : LwO w base v xs) (g : Below w.heap.size w w') : LwO w' base v xs := ⟨own_kept h.row g, fun x hx => (h.el x hx).kept g⟩
theorem Tryd.infoPB : (Tryd.prog.info? 38).map (fun i => (i.zero, i.size, i.bytes)) = some (some (.agg #[.slice none 0 0, .slice none 0 0, .slice none 0 0]), 3, 72) := by kernel_rfl
/-- One block more. -/
theorem LwO.push {w : World} {base : Nat} {v : Value} {xs : List BV} (h : LwO w base v xs) (hb : base ≤ w.heap.size) (hn : xs.length ≤ 4000000) (k : BK) (da ea ra : Option Addr) (n1 dc n2 ec n3 rc : Nat) (ho : BkO w base k (.slice da n1 dc) (.slice ea n2 ec) (.slice ra n3 rc)) :
    ∃ a c w', Hid ((Builtin.append_ #[26, 26] 26 #[v, .slice (some ⟨w.heap.size, 0, none⟩) 1 1]).run Tryd.prog (w.alloc (.cells #[.slice da n1 dc, .slice ea n2 ec, .slice ra n3 rc] 38)) = .ok (.slice a (xs.length + 1) c) w') ∧ Hid (LwO w' base (.slice a (xs.length + 1) c) (xs ++ [⟨k, .slice da n1 dc, .slice ea n2 ec, .slice ra n3 rc⟩])) ∧ Hid (Grow w w' v (.slice a (xs.length + 1) c)) := by
  obtain ⟨v', w', h1, h2, h3⟩ := append_st 38 26 3 72 (.agg #[.slice none 0 0, .slice none 0 0, .slice none 0 0]) Tryd.underlying26 Tryd.infoPB rfl (by decide) (by decide) base v xs.length (xs.flatMap cBV) w #[.slice da n1 dc, .slice ea n2 ec, .slice ra n3 rc] rfl (fun u hu => by simp at hu; rcases hu with rfl | rfl | rfl <;> rfl) h.row hb hn
  obtain ⟨a, c, rfl⟩ := own_shape h2
  have hk : ∀ {k : BK} {d e r : Value}, BkO w base k d e r → BkO w' base k d e r := fun q => ⟨grow_own h3 h.row q.hd (by decide), grow_own h3 h.row q.he (by decide), grow_own h3 h.row q.hr (by decide), q.ap⟩
  refine ⟨a, c, w', hid h1, hid ⟨by rw [List.flatMap_append, List.length_append]; exact h2, fun x hx => ?_⟩, hid h3⟩
  rcases List.mem_append.1 hx with hx | hx
  · exact hk (h.el x hx)
  · simp at hx
    subst hx
    exact hk ho
end Go.Proofs.YtidljnkalaklmaaDoor
namespace Go.Proofs.YtidljnkalaklmaaDoor
open Go.RowKit
set_option maxRecDepth 1000000
set_option linter.unusedVariables false
set_option linter.unusedSimpArgs false
set_option maxHeartbeats 1000000
def inB (x y : IN) : Bool := (x.op == y.op) && ((x.a == y.a) && ((x.b == y.b) && ((x.c == y.c) && (x.d == y.d))))
def lnB (x y : LN) : Bool := (x.tag == y.tag) && (x.pl == y.pl)
theorem inB_iff (x y : IN) : inB x y = true ↔ x = y := by
  cases x
  cases y
  simp [inB]
theorem lnB_iff (x y : LN) : lnB x y = true ↔ x = y := by
  cases x
  cases y
  simp [lnB]
theorem eqIN (x y : IN) (w : World) : (Op.equalIn 10000 42 (.agg #[.int .i64 x.op, .int .i64 x.a, .int .i64 x.b, .int .i64 x.c, .int .i64 x.d]) (.agg #[.int .i64 y.op, .int .i64 y.a, .int .i64 y.b, .int .i64 y.c, .int .i64 y.d])).run Tryd.prog w = .ok (inB x y) w := by
  have u3 := Tryd.underlying3
  have a3 := Tryd.isAgg3
  have z3 := Tryd.sizeOf3
  have hS : Tryd.prog.underlying 42 = some (.struct (Tryd.prog.fieldsOf 42)) := by kernel_rfl
  have hp : Tryd.prog.stoodInHeld 42 = false := by kernel_rfl
  unfold inB
  rw [show (10000 : Nat) = 9999 + 1 from rfl, run_equalIn_agg w 9999 42 _ _ hS hp]
  simp only [Program.fieldsOf, Tryd.underlying42]
  go_simp
  by_cases h1 : x.op = y.op <;> by_cases h2 : x.a = y.a <;> by_cases h3 : x.b = y.b <;> by_cases h4 : x.c = y.c <;> by_cases h5 : x.d = y.d <;> simp [h1, h2, h3, h4, h5]
theorem eqLN (x y : LN) (w : World) : (Op.equalIn 10000 34 (.agg #[.int .i64 x.tag, .int .i64 x.pl]) (.agg #[.int .i64 y.tag, .int .i64 y.pl])).run Tryd.prog w = .ok (lnB x y) w := by
  have u3 := Tryd.underlying3
  have a3 := Tryd.isAgg3
  have z3 := Tryd.sizeOf3
  have hS : Tryd.prog.underlying 34 = some (.struct (Tryd.prog.fieldsOf 34)) := by kernel_rfl
  have hp : Tryd.prog.stoodInHeld 34 = false := by kernel_rfl
  unfold lnB
  rw [show (10000 : Nat) = 9999 + 1 from rfl, run_equalIn_agg w 9999 34 _ _ hS hp]
  simp only [Program.fieldsOf, Tryd.underlying34]
  go_simp
  by_cases h1 : x.tag = y.tag <;> by_cases h2 : x.pl = y.pl <;> simp [h1, h2]
theorem gdIN : Tryd.prog.eqGuardType Tryd.prog.depth 42 = false := by kernel_rfl
theorem gdLN : Tryd.prog.eqGuardType Tryd.prog.depth 34 = false := by kernel_rfl
end Go.Proofs.YtidljnkalaklmaaDoor
namespace Go.Proofs.YtidljnkalaklmaaDoor
open Go.RowKit
set_option maxRecDepth 1000000
set_option linter.unusedVariables false
set_option linter.unusedSimpArgs false
set_option maxHeartbeats 1000000
/-- A block, in memory. -/
structure BkR (w : World) (k : BK) (d e r : Value) : Prop where
  hd : RowS w AnyZ 5 d k.dec.length (k.dec.flatMap cIN)
  he : RowS w AnyZ 5 e k.enc.length (k.enc.flatMap cIN)
  hr : RowS w AnyZ 2 r k.rows.length (k.rows.flatMap cLN)
theorem BkR.kept {w w' : World} {k : BK} {d e r : Value} (h : BkR w k d e r) (g : Below w.heap.size w w') : BkR w' k d e r := ⟨h.hd.kept g, h.he.kept g, h.hr.kept g⟩
theorem BkO.row {w : World} {base : Nat} {k : BK} {d e r : Value} (h : BkO w base k d e r) : BkR w k d e r := ⟨own_row h.hd (fun _ _ => trivial), own_row h.he (fun _ _ => trivial), own_row h.hr (fun _ _ => trivial)⟩
/-- A bool that says P. -/
def EqA (w : World) (P : Prop) (e : Ending) (w' : World) : Prop := ∃ r : Bool, e = .returned (.bool r) ∧ (r = true ↔ P) ∧ Below w.heap.size w w'
theorem EqA.no {w w' : World} {P : Prop} (h : ¬ P) (hb : Below w.heap.size w w') : EqA w P (.returned (.bool false)) w' := ⟨false, rfl, ⟨fun q => (by cases q), fun q => absurd q h⟩, hb⟩
end Go.Proofs.YtidljnkalaklmaaDoor
namespace Go.Proofs.YtidljnkalaklmaaDoor
open Go.RowKit
set_option maxRecDepth 1000000
set_option linter.unusedVariables false
set_option linter.unusedSimpArgs false
set_option maxHeartbeats 1000000
/-- A program, in memory. -/
structure PgR (w : World) (v : Value) (bs : List BV) : Prop where
  row : RowS w AnyZ 3 v bs.length (bs.flatMap cBV)
  el : ∀ x ∈ bs, BkR w x.k x.d x.e x.r
theorem PgR.kept {w w' : World} {v : Value} {bs : List BV} (h : PgR w v bs) (g : Below w.heap.size w w') : PgR w' v bs := ⟨h.row.kept g, fun x hx => (h.el x hx).kept g⟩
theorem LwO.prog {w : World} {base : Nat} {v : Value} {xs : List BV} (h : LwO w base v xs) : PgR w v xs := ⟨own_row h.row (fun _ _ => trivial), fun x hx => (h.el x hx).row⟩
theorem isSingleT (w : World) (k : Int) (h : 1 ≤ k ∧ k ≤ 16) : Calls Tryd.prog 67 #[.int .i64 k] w fun e w' => e = .returned (.bool true) ∧ w' = w := by
  have h1 : (1 ≤ k) = True := eq_true h.1
  have h2 : (k ≤ 16) = True := eq_true h.2
  go_enter Tryd.func67, Tryd.ntmps67
  go_wp2
  go_ret
  exact ⟨rfl, rfl⟩
theorem isFieldT (w : World) (k : Int) (h : 1 ≤ k ∧ k ≤ 536870911) : Calls Tryd.prog 69 #[.int .i64 k] w fun e w' => e = .returned (.bool true) ∧ w' = w := by
  have h1 : (1 ≤ k) = True := eq_true h.1
  have h2 : (k ≤ 536870911) = True := eq_true h.2
  go_enter Tryd.func69, Tryd.ntmps69
  go_wp2
  go_ret
  exact ⟨rfl, rfl⟩
/-- A tag of a field. -/
structure TagOk (t : Int) (n k : Int) : Prop where
  eq : t = tagV n k
  num : 1 ≤ n ∧ n ≤ 536870911
  kind : k = 0 ∨ k = 1 ∨ k = 2 ∨ k = 5
theorem i64_and7 (n : Int) : bits .and .i64 n 7 = n % 8 := by
  have h7 : (BitVec.ofInt 64 7).toNat = 2 ^ 3 - 1 := by decide
  have key : (BitVec.ofInt 64 n &&& BitVec.ofInt 64 7).toNat = (n % ((2 ^ 64 : Nat) : Int)).toNat % 2 ^ 3 := by
    rw [BitVec.toNat_and, BitVec.toNat_ofInt, h7, Nat.and_two_pow_sub_one_eq_mod]
  show IntKind.i64.wrap ((BitVec.ofInt 64 n &&& BitVec.ofInt 64 7).toNat : Nat) = n % 8
  rw [key, IntKind.wrap_i64]
  omega
theorem isTagT (w : World) (t n k : Int) (h : TagOk t n k) : Calls Tryd.prog 56 #[.int .i64 t] w fun e w' => e = .returned (.bool true) ∧ w' = w := by
  obtain ⟨e, hn, hk⟩ := h
  have h1 : bits .and .i64 t 7 = k := by rw [i64_and7, e]; unfold tagV; omega
  have h2 : t / 8 = n := by rw [e]; unfold tagV; omega
  have h3 : (1 ≤ n) = True := eq_true hn.1
  have h4 : (n ≤ 536870911) = True := eq_true hn.2
  clear e hn
  rcases hk with rfl | rfl | rfl | rfl
  all_goals
    go_enter Tryd.func56, Tryd.ntmps56
    go_wp2
    go_ret
    exact ⟨rfl, rfl⟩
theorem stepL (w : World) (op : Int) (ns : List Int) (hl : ns.length ≤ 4) (b : Nat) (hB : Blk w b 3 (ints ns)) : Calls Tryd.prog 66 #[.int .i64 op, .slice (some ⟨b, 0, none⟩) ns.length ns.length] w fun e w' => e = .returned (vIN (insV op ns)) ∧ Below w.heap.size w w' := stepT w op ns hl _ _ (ints_row ns hl hB)
theorem pg_at {w : World} {ba : Option Addr} {n bc : Nat} {bs : List BV} (h : PgR w (.slice ba n bc) bs) {k : Nat} (hk : k < bs.length) : ∃ b o da dc ea ec ra rc, ba = some ⟨b, o, none⟩ ∧ b < w.heap.size ∧ w.cell? ⟨b, o + k * 3, none⟩ = some (.slice da bs[k].k.dec.length dc) ∧ w.cell? ⟨b, o + k * 3 + 1, none⟩ = some (.slice ea bs[k].k.enc.length ec) ∧ w.cell? ⟨b, o + k * 3 + 2, none⟩ = some (.slice ra bs[k].k.rows.length rc) ∧ BkR w bs[k].k (.slice da bs[k].k.dec.length dc) (.slice ea bs[k].k.enc.length ec) (.slice ra bs[k].k.rows.length rc) := by
  obtain ⟨b, o, e, hc⟩ := rowAt (g := cBV) (fun _ => rfl) h.row (i := k) (x := bs[k]) (by simp [hk])
  have hb := h.el _ (List.getElem_mem hk)
  obtain ⟨da, dc, e1, -⟩ := rowS_sl hb.hd
  obtain ⟨ea, ec, e2, -⟩ := rowS_sl hb.he
  obtain ⟨ra, rc, e3, -⟩ := rowS_sl hb.hr
  have c0 := hc 0 _ rfl
  have c1 := hc 1 _ rfl
  have c2 := hc 2 _ rfl
  rw [e1] at c0
  rw [e2] at c1
  rw [e3] at c2
  rw [e1, e2, e3] at hb
  exact ⟨b, o, da, dc, ea, ec, ra, rc, e, World.block_lt_of_cell? _ _ c0, c0, c1, c2, hb⟩
theorem isEnumT (w : World) (bs : List BV) (ba : Option Addr) (bc : Nat) (h : PgR w (.slice ba bs.length bc) bs) (k : Nat) (hk : k < bs.length) (h1 : bs[k].k.dec.length = 0) (h2 : bs[k].k.enc.length = 0) : Calls Tryd.prog 68 #[.slice ba bs.length bc, .int .i64 (k : Int)] w fun e w' => e = .returned (.bool true) ∧ Below w.heap.size w w' := by
  obtain ⟨b, o, da, dc, ea, ec, ra, rc, rfl, hb, c0, c1, c2, -⟩ := pg_at h hk
  rw [h1] at c0
  rw [h2] at c1
  have r1 : (0 : Int) ≤ (k : Int) := by omega
  have r2 : (k : Int) < (bs.length : Int) := by omega
  generalize bs[k].k.rows.length = n3 at *
  clear h h1 h2
  go_enter Tryd.func68, Tryd.ntmps68
  go_wp2
  go_ret
  exact ⟨rfl, by exact blBy⟩
theorem isMessageT (w : World) (bs : List BV) (ba : Option Addr) (bc : Nat) (h : PgR w (.slice ba bs.length bc) bs) (k : Nat) (hk : k < bs.length) (h1 : 0 < bs[k].k.dec.length) (hz : bs[k].k.dec.length ≤ 100000 ∧ bs[k].k.enc.length ≤ 100000) : Calls Tryd.prog 70 #[.slice ba bs.length bc, .int .i64 (k : Int)] w fun e w' => e = .returned (.bool true) ∧ Below w.heap.size w w' := by
  obtain ⟨b, o, da, dc, ea, ec, ra, rc, rfl, hb, c0, c1, c2, -⟩ := pg_at h hk
  have r1 : (0 : Int) ≤ (k : Int) := by omega
  have r2 : (k : Int) < (bs.length : Int) := by omega
  generalize bs[k].k.rows.length = n3 at *
  generalize bs[k].k.dec.length = n1 at *
  generalize bs[k].k.enc.length = n2 at *
  have r3 : (0 : Int) < (n1 : Int) + (n2 : Int) := by omega
  have r4 : (n1 : Int) + (n2 : Int) ≤ 9223372036854775807 := by omega
  have r5 : (n1 : Int) ≤ 100000 := by omega
  have r6 : (n2 : Int) ≤ 100000 := by omega
  clear h h1 hz
  go_enter Tryd.func70, Tryd.ntmps70
  go_wp2
  go_ret
  exact ⟨ret_bool (by first | rfl | exact decide_eq_true r3 | (simp; omega)), by exact blBy⟩
/-- A block that a kind needs. -/
def OfKind (bs : List BV) (kind ref : Int) : Prop := 1 ≤ kind ∧ kind ≤ 17 ∧ ∃ k : Nat, ref = (k : Int) ∧ (kind = 16 → ∃ h : k < bs.length, bs[k].k.dec.length = 0 ∧ bs[k].k.enc.length = 0) ∧ (kind = 17 → ∃ h : k < bs.length, 0 < bs[k].k.dec.length ∧ bs[k].k.dec.length ≤ 100000 ∧ bs[k].k.enc.length ≤ 100000) ∧ (kind ≠ 16 → kind ≠ 17 → ref = 0)
theorem isOfKindT (w : World) (bs : List BV) (ba : Option Addr) (bc : Nat) (h : PgR w (.slice ba bs.length bc) bs) (kind ref : Int) (hk : OfKind bs kind ref) : Calls Tryd.prog 74 #[.slice ba bs.length bc, .int .i64 kind, .int .i64 ref] w fun e w' => e = .returned (.bool true) ∧ Below w.heap.size w w' := by
  obtain ⟨g1, g2, k, rfl, q16, q17, q0⟩ := hk
  by_cases h16 : kind = 16
  · obtain ⟨hl, a1, a2⟩ := q16 h16
    have HE := hid (fun W hW => isEnumT W bs ba bc (h.kept hW) k hl a1 a2)
    subst h16
    clear h q16 q17 q0
    go_enter Tryd.func74, Tryd.ntmps74
    go_wp2_with fail
    refine (HE.out _ (by exact blBy)).mono ?_
    rintro e w1 ⟨rfl, hb⟩
    go_wp2
    go_ret
    exact ⟨rfl, hb⟩
  by_cases h17 : kind = 17
  · obtain ⟨hl, a1, a2⟩ := q17 h17
    have HE := hid (fun W hW => isMessageT W bs ba bc (h.kept hW) k hl a1 a2)
    subst h17
    clear h q16 q17 q0
    go_enter Tryd.func74, Tryd.ntmps74
    go_wp2_with fail
    refine (HE.out _ (by exact blBy)).mono ?_
    rintro e w1 ⟨rfl, hb⟩
    go_wp2
    go_ret
    exact ⟨rfl, hb⟩
  have e0 := q0 h16 h17
  obtain rfl : k = 0 := by omega
  have k16 : (kind == 16) = false := by simpa using h16
  have k17 : (kind == 17) = false := by simpa using h17
  have r1 : (1 ≤ kind) = True := eq_true g1
  have r2 : (kind ≤ 16) = True := eq_true (by
    rcases Int.lt_or_le 16 kind with q | q
    · exact absurd (Int.le_antisymm g2 q) h17
    · exact q)
  clear h q16 q17 q0 e0
  go_enter Tryd.func74, Tryd.ntmps74
  go_wp2
  go_ret
  exact ⟨ret_bool (by first | rfl | simp), by first | exact Below.refl _ _ | exact blBy⟩
theorem areRowSymbolsT (w : World) (bs : List BV) (ba : Option Addr) (bc : Nat) (h : PgR w (.slice ba bs.length bc) bs) (kind num : Int) (hk : (kind = 16 ∧ ∃ k : Nat, num = (k : Int) + 1 ∧ ∃ h : k < bs.length, bs[k].k.dec.length = 0 ∧ bs[k].k.enc.length = 0) ∨ (kind ≠ 16 ∧ num = 0)) (h63 : num ≤ 1000) : Calls Tryd.prog 72 #[.slice ba bs.length bc, .int .i64 kind, .int .i64 num] w fun e w' => e = .returned (.bool true) ∧ Below w.heap.size w w' := by
  rcases hk with ⟨rfl, k, rfl, hl, a1, a2⟩ | ⟨h16, rfl⟩
  · have HE := hid (fun W hW => isEnumT W bs ba bc (h.kept hW) k hl a1 a2)
    clear h
    go_enter Tryd.func72, Tryd.ntmps72
    go_wp2_with (first | (go_at_call 68; (try simp only [Int.add_sub_cancel]); refine (HE.out _ (by first | exact Below.refl _ _ | exact blBy)).mono ?_; rintro e w1 ⟨rfl, hb⟩))
    go_ret
    exact ⟨rfl, hb⟩
  · have k16 : (kind == 16) = false := by simpa using h16
    clear h
    go_enter Tryd.func72, Tryd.ntmps72
    go_wp2
    go_ret
    exact ⟨ret_bool (by first | rfl | simp), by first | exact Below.refl _ _ | exact blBy⟩
end Go.Proofs.YtidljnkalaklmaaDoor
namespace Go.Proofs.YtidljnkalaklmaaDoor
open Go.RowKit
set_option maxRecDepth 1000000
set_option linter.unusedVariables false
set_option linter.unusedSimpArgs false
set_option maxHeartbeats 4000000
/-- An operation's name, and how many numbers it names. -/
def opNm : List (List Int) := [[116, 97, 103], [99, 97, 115, 101], [106, 117, 109, 112], [103, 111], [114, 101, 97, 100], [115, 121, 109], [115, 101, 116], [97, 100, 100], [99, 108, 101, 97, 114], [109, 115, 103], [114, 111, 119], [112, 97, 105, 114], [107, 101, 101, 112], [114, 101, 97, 100, 115, 101, 116], [114, 101, 97, 100, 97, 100, 100], [104, 97, 115], [112, 117, 116], [118, 97, 108], [115, 117, 98], [101, 97, 99, 104], [114, 117, 110], [112, 97, 105, 114, 115], [114, 101, 115, 116], [101, 110, 100], [112, 117, 116, 118, 97, 108]]
def opCt : List Nat := [0, 2, 1, 1, 1, 1, 1, 1, 1, 3, 3, 4, 0, 2, 2, 3, 1, 1, 1, 3, 2, 4, 0, 0, 2]
def opV (k : Nat) : List Value := [.int .i64 ((k : Int) + 1), .string (strOfNums (opNm[k]?.getD [])), .int .i64 ((opCt[k]?.getD 0 : Nat) : Int)]
def opAll : List Value := (List.range 25).flatMap opV
def OpA (w : World) (e : Ending) (w' : World) : Prop := e = .returned (.agg opAll.toArray) ∧ Below w.heap.size w w'
theorem opAll_len : opAll.length = 75 := by kernel_rfl
theorem opStore (w : World) (L : List Value) (hL : L = opAll) : (storeCells ⟨w.heap.size, 0, none⟩ L 0).run Tryd.prog (w.alloc (.cells Tryd.zeroCells59 59)) = .ok () (w.alloc (.cells opAll.toArray 59)) := by
  subst hL
  have := run_storeCells_new (P := Tryd.prog) w 59 Tryd.zeroCells59 opAll.toArray (by kernel_rfl) (by kernel_rfl) (by kernel_rfl)
  simpa using this
theorem allOpsT (w : World) : Calls Tryd.prog 21 #[] w (OpA w) := by
  go_enter Tryd.func21, Tryd.ntmps21
  go_wp2
  rw [opStore]
  · simp only [Result.andThen]
    rw [Oper.upon_skip]
    generalize hA : opAll.toArray = A
    go_wp2
    subst hA
    exact bodyPost_ret (v := .agg opAll.toArray) (results_cell_row rfl _ _ w.heap.size 59 opAll.toArray (0, 0) _ rfl (heap_alloc_last w _) (show Tryd.prog.underlying 59 = some (.array 25 57) by kernel_rfl) rfl (by kernel_rfl)) rfl ⟨rfl, by exact blBy⟩
  · kernel_rfl
end Go.Proofs.YtidljnkalaklmaaDoor
namespace Go.Proofs.YtidljnkalaklmaaDoor
open Go.RowKit
set_option maxRecDepth 1000000
set_option linter.unusedVariables false
set_option linter.unusedSimpArgs false
set_option maxHeartbeats 1000000
theorem opAt (k j : Nat) (v : Value) (hk : k < 25) (hv : (opV k)[j]? = some v) : opAll.toArray[k * 3 + j]? = some v := by
  have := flatM_get (g := opV) (k := 3) (fun _ => rfl) (List.range 25) k j k v (by simp [hk]) hv
  simpa [opAll] using this
/-- What numbered answers. -/
def numV (n : Int) : Value := if 1 ≤ n ∧ n ≤ 25 then .tuple #[.agg (opV (n - 1).toNat).toArray, .bool true] else .tuple #[.agg #[.int .i64 0, .string ⟨#[]⟩, .int .i64 0], .bool false]
theorem numV_yes (k : Nat) (hk : k < 25) : numV ((k : Int) + 1) = .tuple #[.agg #[.int .i64 ((k : Int) + 1), .string (strOfNums (opNm[k]?.getD [])), .int .i64 ((opCt[k]?.getD 0 : Nat) : Int)], .bool true] := by
  unfold numV
  rw [if_pos (by omega)]
  have : ((k : Int) + 1 - 1).toNat = k := by omega
  rw [this]
  rfl
theorem numV_no (n : Int) (h : ¬ (1 ≤ n ∧ n ≤ 25)) : numV n = .tuple #[.agg #[.int .i64 0, .string ⟨#[]⟩, .int .i64 0], .bool false] := by
  unfold numV
  rw [if_neg h]
theorem numberedC (w : World) (p : Nat) (n : Int) (hp : p < w.heap.size) (hB : ∀ i, i < 75 → w.cell? ⟨p, i, none⟩ = opAll.toArray[i]?) : Calls Tryd.prog 39 #[.pointer (some ⟨p, 0, none⟩), .int .i64 n] w fun e w' => e = .returned (numV n) ∧ Below w.heap.size w w' := by
  have HB := hid hB
  clear hB
  have HR : Hid (Blk (w.alloc (.cells #[.int .i64 0, .string ⟨#[]⟩, .int .i64 0] 57)) w.heap.size 57 #[.int .i64 0, .string ⟨#[]⟩, .int .i64 0]) := hid (Blk.new _ _ _)
  go_enter Tryd.func39, Tryd.ntmps39
  go_wp2
  go_loopw [10] (fun s10 wr => ∃ i : Nat, s10 = .int .i64 (i : Int) ∧ i ≤ 25 ∧ Hid (¬ (1 ≤ n ∧ n ≤ (i : Int))) ∧ Hid (Blk wr w.heap.size 57 #[.int .i64 0, .string ⟨#[]⟩, .int .i64 0]) ∧ Hid (Below w.heap.size w wr)) (fun s10 wr => 25 - numAt wr s10)
  case atStart => exact ⟨0, rfl, by decide, hid (by omega), HR, hid (by exact blBy)⟩
  case round =>
    obtain ⟨i, rfl, hi, HN, BR, hb⟩ := hrel
    have xr := BR.out.cellF
    have yr := BR.out.frz
    have zr := BR.out.lt
    by_cases hlt : i < 25
    · have h2 : (i : Int) < 25 := by omega
      have c0 : wr.cell? ⟨p, i * 3, none⟩ = some (.int .i64 ((i : Int) + 1)) := cell_below ((HB.out (i * 3) (by omega)).trans (by simpa using opAt i 0 _ hlt rfl)) hb.out
      have c1 : wr.cell? ⟨p, i * 3 + 1, none⟩ = some (.string (strOfNums (opNm[i]?.getD []))) := cell_below ((HB.out (i * 3 + 1) (by omega)).trans (opAt i 1 _ hlt rfl)) hb.out
      have c2 : wr.cell? ⟨p, i * 3 + 2, none⟩ = some (.int .i64 ((opCt[i]?.getD 0 : Nat) : Int)) := cell_below ((HB.out (i * 3 + 2) (by omega)).trans (opAt i 2 _ hlt rfl)) hb.out
      have hpw : p < wr.heap.size := Nat.lt_of_lt_of_le hp hb.out.size
      have HY := hid (numV_yes i hlt)
      by_cases hn : (i : Int) + 1 = n
      · subst hn
        have HYY := hid (numV_yes i hlt)
        generalize strOfNums (opNm[i]?.getD []) = sv at *
        generalize ((opCt[i]?.getD 0 : Nat) : Int) = cv at *
        go_wp2
        exact bodyPost_ret (v := .tuple #[.agg #[.int .i64 ((i : Int) + 1), .string sv, .int .i64 cv], .bool true]) (by simp [results, Tryd.results39, go_sem, xr, zr]) rfl ⟨by rw [HYY.out], by have := hb.out; exact blBy⟩
      · have hn2 : ((i : Int) + 1 == n) = false := by simpa using hn
        have HN2 : Hid (¬ (1 ≤ n ∧ n ≤ ((i + 1 : Nat) : Int))) := hid (by have := HN.out; omega)
        have BR2 := hid (BR.out.kept (below_alloc (w := wr) (.cells #[.int .i64 ((i : Int) + 1), .string (strOfNums (opNm[i]?.getD [])), .int .i64 ((opCt[i]?.getD 0 : Nat) : Int)] 57)))
        have HB2 := hid (bl_alloc hb.out (.cells #[.int .i64 ((i : Int) + 1), .string (strOfNums (opNm[i]?.getD [])), .int .i64 ((opCt[i]?.getD 0 : Nat) : Int)] 57))
        generalize strOfNums (opNm[i]?.getD []) = sv at *
        generalize ((opCt[i]?.getD 0 : Nat) : Int) = cv at *
        clear HN BR
        go_wp2
        exact ⟨⟨i + 1, by simp, by omega, HN2, BR2, HB2⟩, by simp [numAt]; omega⟩
    · have h2 : ¬ (i : Int) < 25 := by omega
      obtain rfl : i = 25 := by omega
      have HNO := hid (numV_no n HN.out)
      go_wp2
      exact bodyPost_ret (v := .tuple #[.agg #[.int .i64 0, .string ⟨#[]⟩, .int .i64 0], .bool false]) (by simp [results, Tryd.results39, go_sem, xr, zr]) rfl ⟨by rw [HNO.out], by have := hb.out; exact blBy⟩
theorem numberedT (w : World) (p : Nat) (n : Int) (hB : Blk w p 59 opAll.toArray) : Calls Tryd.prog 39 #[.pointer (some ⟨p, 0, none⟩), .int .i64 n] w fun e w' => e = .returned (numV n) ∧ Below w.heap.size w w' := numberedC w p n hB.lt (fun i _ => hB.cellF i)
/-- A step's numbers. -/
def insN (s : IN) : List Int := [s.a, s.b, s.c, s.d]
theorem numbersT (w : World) (x y : Value) (c : Nat) (hc : c ≤ 4) (s : IN) : Calls Tryd.prog 40 #[.agg #[x, y, .int .i64 (c : Int)], vIN s] w fun e w' => ∃ b : Nat, e = .returned (.slice (some ⟨b, 0, none⟩) c 4) ∧ Blk w' b 108 #[.int .i64 s.a, .int .i64 s.b, .int .i64 s.c, .int .i64 s.d] ∧ w.heap.size ≤ b ∧ Below w.heap.size w w' := by
  have hc2 : (c : Int) ≤ 4 := by omega
  unfold vIN
  go_enter Tryd.func40, Tryd.ntmps40
  go_wp2
  go_ret
  exact ⟨_, rfl, Blk.newAt (by simp), by omega, by exact blBy⟩
end Go.Proofs.YtidljnkalaklmaaDoor
namespace Go.Proofs.YtidljnkalaklmaaDoor.W
open Go.RowKit
set_option maxRecDepth 1000000
theorem strOfNums_inj : ∀ (xs ys : List Int), (∀ x ∈ xs, 0 ≤ x ∧ x ≤ 255) → (∀ x ∈ ys, 0 ≤ x ∧ x ≤ 255) → strOfNums xs = strOfNums ys → xs = ys := by
  intro xs ys hx hy h
  have h1 : (strOfNums xs).data.toList = (strOfNums ys).data.toList := by rw [h]
  rw [strOfNums_data, strOfNums_data] at h1
  clear h
  induction xs generalizing ys with
  | nil => cases ys with
    | nil => rfl
    | cons y r => simp at h1
  | cons x r ih => cases ys with
    | nil => simp at h1
    | cons y s =>
      simp only [List.map_cons, List.cons.injEq] at h1
      have a := hx x (by simp)
      have b := hy y (by simp)
      have h2 : (UInt8.ofNat x.toNat).toNat = (UInt8.ofNat y.toNat).toNat := by rw [h1.1]
      simp only [UInt8.toNat_ofNat'] at h2
      rw [ih s (fun z hz => hx z (by simp [hz])) (fun z hz => hy z (by simp [hz])) h1.2]
      congr 1
      omega
theorem drop_at {xs : List Int} {j : Nat} (h : j < xs.length) : xs.drop j = xs[j]?.getD 0 :: xs.drop (j + 1) := by
  rw [List.drop_eq_getElem_cons h]
  simp [h]
theorem ret_int {k : IntKind} {a b : Int} (h : a = b) : Ending.returned (.int k a) = .returned (.int k b) := by rw [h]
theorem ret_bool {a b : Bool} (h : a = b) : Ending.returned (.bool a) = .returned (.bool b) := by rw [h]
theorem hid {p : Prop} (h : p) : Hid p := h
/-- A slice of bytes that can be read: its bytes are xs. -/
structure Reads (w : World) (a : Option Addr) (len cap : Nat) (xs : List Int) : Prop where
  length : xs.length = len
  le : len ≤ cap
  max : cap ≤ 9223372036854775807
  bd : ∀ i, 0 ≤ xs.getD i 0 ∧ xs.getD i 0 ≤ 255
  cells : (len = 0 ∧ (a = none → cap = 0)) ∨ ∃ b off, a = some ⟨b, off, none⟩ ∧ ∀ i, i < len → w.cell? ⟨b, off + i, none⟩ = some (.int .u8 (xs.getD i 0))
theorem conv {w : World} {a : Option Addr} {len cap : Nat} {xs : List Int} (h : Reads w a len cap xs) : (convert 22 9 (.slice a len cap)).run Tryd.prog w = .ok (.string (strOfNums xs)) w := by
  rcases h.cells with ⟨h0, _⟩ | ⟨b, off, rfl, hc⟩
  · subst h0
    have hx : xs = [] := List.eq_nil_of_length_eq_zero h.length
    subst hx
    cases a with
    | none => rw [run_convert_bytes_nil w 22 5 Tryd.underlying22 Tryd.underlying5 0 cap 9 Tryd.underlying9]; rfl
    | some x =>
      rw [run_convert_bytes_string w 22 9 5 _ 0 cap Tryd.underlying22 Tryd.underlying5 Tryd.underlying9, run_bytesToString w _ 0 cap [] (by simp [loadCells, loadCellsFrom])]
      rfl
  · exact run_convert_bytes_arg w 22 5 Tryd.underlying22 Tryd.underlying5 b off len cap xs h.length hc 9 Tryd.underlying9
theorem bd_mem {xs : List Int} (h : ∀ i, 0 ≤ xs.getD i 0 ∧ xs.getD i 0 ≤ 255) : ∀ x ∈ xs, 0 ≤ x ∧ x ≤ 255 := by
  intro x hx
  obtain ⟨i, hi, rfl⟩ := List.mem_iff_getElem.1 hx
  have := h i
  simpa [hi] using this
theorem Tryd.info5 : (Tryd.prog.info? 5).map (fun i => (i.zero, i.size, i.bytes)) = some (some (.int .u8 0), 1, 1) := by kernel_rfl
theorem bd_get {xs : List Int} (h : ∀ x ∈ xs, 0 ≤ x ∧ x ≤ 255) : ∀ i, 0 ≤ xs.getD i 0 ∧ xs.getD i 0 ≤ 255 := by
  intro i
  by_cases hi : i < xs.length
  · have := h xs[i] (List.getElem_mem hi)
    simpa [hi] using this
  · simp [hi]
theorem own_reads {w : World} {base n : Nat} {v : Value} {xs : List Int} (h : w.ownsRow base 5 1 v n (xs.map (Value.int .u8))) (hb : ∀ x ∈ xs, 0 ≤ x ∧ x ≤ 255) :
    ∃ a cap, v = .slice a n cap ∧ Reads w a n cap xs := by
  have hl : xs.length = n := by simpa using h.1
  rcases h.2 with ⟨rfl, h0⟩ | ⟨g, cap, cur, rfl, hbg, hg, hnc, hcm, hcs, htake⟩
  · subst h0
    exact ⟨none, 0, rfl, hl, Nat.le_refl _, by omega, bd_get hb, .inl ⟨rfl, fun _ => rfl⟩⟩
  · refine ⟨_, cap, rfl, hl, hnc, by unfold maxLen at hcm; omega, bd_get hb, .inr ⟨g, 0, rfl, fun i hi => ?_⟩⟩
    have hx : (xs.map (Value.int .u8))[i]? = some (.int .u8 (xs.getD i 0)) := by simp [show i < xs.length by omega]
    have := h.cells (g := g) rfl i _ hx
    have hadd : (⟨g, 0, none⟩ : Addr).add i = ⟨g, 0 + i, none⟩ := by unfold Addr.add; split <;> simp_all
    rwa [hadd] at this
theorem reads_kept {w w' : World} {a : Option Addr} {len cap : Nat} {xs : List Int} (h : Reads w a len cap xs) (hb : Below w.heap.size w w') : Reads w' a len cap xs := by
  refine ⟨h.length, h.le, h.max, h.bd, ?_⟩
  rcases h.cells with h0 | ⟨b, off, rfl, hc⟩
  · exact .inl h0
  · exact .inr ⟨b, off, rfl, fun i hi => by rw [hb.cell (p := ⟨b, off + i, none⟩) (World.block_lt_of_cell? _ _ (hc i hi))]; exact hc i hi⟩
theorem below_alloc {w : World} (o : Obj) : Below w.heap.size w (w.alloc o) := (Below.refl _ _).alloc (Nat.le_refl _) o
theorem below_trans {w w1 w2 : World} (h1 : Below w.heap.size w w1) (h2 : Below w1.heap.size w1 w2) : Below w.heap.size w w2 := h1.trans (h2.mono h1.size)
theorem reads_src {w : World} {x : Addr} {len cap : Nat} {xs : List Int} (h : Reads w (some x) len cap xs) : ∀ j u, (xs.map (Value.int .u8))[j]? = some u → w.cell? (x.add j) = some u := by
  intro j u hu
  have hlen := h.length
  have hj : j < xs.length := by
    rcases Nat.lt_or_ge j xs.length with h' | h'
    · exact h'
    · rw [List.getElem?_eq_none (by simpa using h')] at hu; cases hu
  rcases h.cells with ⟨h0, _⟩ | ⟨b, off, e, hc⟩
  · omega
  · cases e
    have hadd : (⟨b, off, none⟩ : Addr).add j = ⟨b, off + j, none⟩ := by unfold Addr.add; split <;> simp_all
    rw [hadd, hc j (by omega)]
    simp [hj] at hu ⊢
    exact hu
theorem one_u8 (xs : List Int) : ∀ u ∈ xs.map (Value.int .u8), u.oneCell' = true := by
  intro u hu
  obtain ⟨x, _, rfl⟩ := List.mem_map.1 hu
  rfl
theorem reads_none {w : World} {len cap : Nat} {xs : List Int} (h : Reads w none len cap xs) : len = 0 ∧ cap = 0 ∧ xs = [] := by
  rcases h.cells with ⟨h0, h1⟩ | ⟨b, off, e, _⟩
  · exact ⟨h0, h1 rfl, List.eq_nil_of_length_eq_zero (by rw [h.length, h0])⟩
  · cases e
/-- From w to w' the slice v became v': every old block but v's own is as it was, and v' lies in v's block or in a new one. -/
structure Grow (w w' : World) (v v' : Value) : Prop where
  os : w'.os = w.os
  tape : w'.tape = w.tape
  output : w'.output = w.output
  size : w.heap.size ≤ w'.heap.size
  block : ∀ k, k < w.heap.size → v.ownBlock ≠ some k → w'.heap[k]? = w.heap[k]?
  own : v'.ownBlock = v.ownBlock ∨ ∀ k, v'.ownBlock = some k → w.heap.size ≤ k
theorem Grow.refl (w : World) (v : Value) : Grow w w v v := ⟨rfl, rfl, rfl, Nat.le_refl _, fun _ _ _ => rfl, .inl rfl⟩
theorem Grow.trans {w w1 w2 : World} {v v1 v2 : Value} (h : Grow w w1 v v1) (g : Grow w1 w2 v1 v2) : Grow w w2 v v2 := by
  refine ⟨g.os.trans h.os, g.tape.trans h.tape, g.output.trans h.output, Nat.le_trans h.size g.size, fun k hk hv => ?_, ?_⟩
  · rw [g.block k (Nat.lt_of_lt_of_le hk h.size) ?_, h.block k hk hv]
    intro e
    rcases h.own with h1 | h1
    · exact hv (h1.symm.trans e)
    · have := h1 k e; omega
  · rcases g.own with g1 | g1
    · rcases h.own with h1 | h1
      · exact .inl (g1.trans h1)
      · exact .inr fun k hk => h1 k (g1.symm.trans hk)
    · exact .inr fun k hk => Nat.le_trans h.size (g1 k hk)
theorem Grow.ofBelow {w w' : World} {v : Value} (h : Below w.heap.size w w') : Grow w w' v v :=
  ⟨h.os, h.tape, h.output, h.size, fun k hk _ => h.block k hk, .inl rfl⟩
theorem Grow.alloc {w w' : World} {v v' : Value} (h : Grow w w' v v') (o : Obj) : Grow w (w'.alloc o) v v' := h.trans (Grow.ofBelow (below_alloc o))
/-- What lies below B stays, where v lies from B on. -/
theorem Grow.below {w w' : World} {v v' : Value} {B : Nat} (h : Grow w w' v v') (hB : B ≤ w.heap.size) (hv : ∀ k, v.ownBlock = some k → B ≤ k) : Below B w w' :=
  ⟨h.os, h.tape, h.output, h.size, fun k hk => h.block k (by omega) (fun e => by have := hv k e; omega)⟩
theorem run_append_mine {P : Program} (w : World) (base : Nat) (t ty e : TypeId) (i : TypeInfo) (z : Value) (size bytes : Nat) (ht : P.underlying t = some (.slice e)) (hi : P.info? e = some i) (hz : i.zero = some z)
    (hsize : i.size = size) (hby : i.bytes = bytes) (hzs : z.cells.size = size) (hsz : 0 < size)
    (v : Value) (n : Nat) (xs : List Value) (hown : w.ownsRow base e size v n xs)
    (a : Addr) (m c : Nat) (news : List Value) (hl : news.length = m * size) (hnews : ∀ j u, news[j]? = some u → w.cell? (a.add j) = some u) (h1 : ∀ u ∈ news, u.oneCell' = true)
    (h63 : n + m ≤ maxLen) (hbytes : (n + m) * bytes ≤ 140737488355328) (hbase : base ≤ w.heap.size) :
    ∃ v' w', (Builtin.append_ #[t, t] ty #[v, .slice (some a) m c]).run P w = .ok v' w' ∧ w'.ownsRow base e size v' (n + m) (xs ++ news) ∧ Grow w w' v v' := by
  obtain ⟨v', w', hr, ho, hg, hn⟩ := run_append_own (P := P) w base t ty e i z size bytes ht hi hz hsize hby hzs hsz v n xs hown a m c news hl hnews h1 h63 hbytes hbase
  refine ⟨v', w', hr, ho, hg.os, hg.tape, hg.output, hg.size, fun k hk hv => hg.block k hk (fun e => hv e.symm), ?_⟩
  have hown0 := hown
  rcases hown.2 with ⟨rfl, rfl⟩ | ⟨g, cap, cur, rfl, hbg, hgg, hnc, hcm, hcs, htake⟩
  · have hx : xs = [] := List.eq_nil_of_length_eq_zero (by simpa using hown.1)
    subst hx
    obtain ⟨v2, w2, hr2, ho2, _, _⟩ := run_append_own (P := P) w w.heap.size t ty e i z size bytes ht hi hz hsize hby hzs hsz _ 0 [] (World.ownsRow_nil _ _ _ _) a m c news hl hnews h1 h63 hbytes (Nat.le_refl _)
    rw [hr] at hr2
    cases hr2
    exact .inr fun k hk => (ho2.lt k hk).1
  · subst hsize
    subst hby
    by_cases hroom : n + m ≤ cap
    · have hfit : n * i.size + news.length ≤ cur.size := by rw [hl, hcs, ← Nat.add_mul]; exact Nat.mul_le_mul_right _ hroom
      have hr2 := run_append_room (P := P) w t ty e i ht hi g n cap cur hgg a m c news hl hnews h1 hroom hfit
      rw [hr] at hr2
      cases hr2
      exact .inl rfl
    · have holds : ∀ j u, xs[j]? = some u → w.cell? ((⟨g, 0, none⟩ : Addr).add j) = some u := hown.cells (g := g) rfl
      have hsmall : n + m ≤ 9223372036854775807 := by simp only [maxLen] at h63; omega
      have hr2 := run_append_grow (P := P) w t ty e i z ht hi hz ⟨g, 0, none⟩ n cap xs hown.1 holds a m c news hl hnews (by omega) (by omega) (growslice_fits (by omega) hbytes)
      rw [hr] at hr2
      cases hr2
      refine .inr fun k hk => ?_
      simp [Value.ownBlock] at hk
      omega
theorem wpList_append_ran {P : Program} {w : World} {ops : Array Oper} {rest : List Oper} {o : Oper} {a : Act} {Q : Exit → Act → World → Prop} (hgd : o.guard = none) (s x : Operand) (t ty : TypeId)
    (ho : o.op = .call { callee := .builtin .append, args := #[s, x], argTypes := #[t, t] }) (hty : o.type = ty) (v xv v' : Value) (w' : World) (hs : a.eval s = v) (hx : a.eval x = xv)
    (hr : (Builtin.append_ #[t, t] ty #[v, xv]).run P w = .ok v' w') (h : wpList P ops Q rest (a.put o.dst v') w') : wpList P ops Q (o :: rest) a w := by
  subst hty
  refine wpList_plain hgd fun K hK => ?_
  unfold Oper.wp
  simp [execOp, ho, resolve, invoke, builtin, hs, hx, hr, Result.andThen]
  exact hK _ _ h
/-- A slice's bytes, from wherever they lie. -/
theorem append_bytes (base : Nat) (v : Value) (n : Nat) (xs : List Value) (w : World) (a : Option Addr) (len cap : Nat) (ys : List Int) (hown : w.ownsRow base 5 1 v n xs) (hb : base ≤ w.heap.size) (hr : Reads w a len cap ys) (hn : n + len ≤ 140737488355328) :
    ∃ v' w', (Builtin.append_ #[22, 22] 22 #[v, .slice a len cap]).run Tryd.prog w = .ok v' w' ∧ w'.ownsRow base 5 1 v' (n + len) (xs ++ ys.map (Value.int .u8)) ∧ Grow w w' v v' := by
  obtain ⟨i0, hi, hz0, hz1, hz2⟩ := info_parts Tryd.info5
  cases a with
  | none =>
    obtain ⟨rfl, rfl, rfl⟩ := reads_none hr
    exact ⟨v, w, run_append_owned_none (P := Tryd.prog) (w := w) base 22 22 5 i0 1 Tryd.underlying22 hi v n xs hown, by simpa using hown, Grow.refl w v⟩
  | some x => exact run_append_mine (P := Tryd.prog) w base 22 22 5 i0 (.int .u8 0) 1 1 Tryd.underlying22 hi hz0 hz1 hz2 rfl (by decide) v n xs hown x len cap (ys.map (Value.int .u8)) (by rw [List.length_map, hr.length, Nat.mul_one]) (reads_src hr) (one_u8 ys) (by unfold maxLen; omega) (by omega) hb
theorem own_kept {w w' : World} {base e size n : Nat} {v : Value} {xs : List Value} (h : w.ownsRow base e size v n xs) (hb : Below w.heap.size w w') : w'.ownsRow base e size v n xs :=
  h.kept (row := none) ⟨hb.os, hb.tape, hb.output, hb.size, fun k hk _ => hb.block k hk⟩ (by cases hv : v.ownBlock <;> simp)
theorem own_mono {w : World} {base base' e size n : Nat} {v : Value} {xs : List Value} (h : w.ownsRow base e size v n xs) (hb : base' ≤ base) : w.ownsRow base' e size v n xs := by
  refine ⟨h.1, h.2.imp id ?_⟩
  rintro ⟨g, cap, cur, h1, h2, h3⟩
  exact ⟨g, cap, cur, h1, Nat.le_trans hb h2, h3⟩
theorem own_shape {w : World} {base e size n : Nat} {v : Value} {xs : List Value} (h : w.ownsRow base e size v n xs) : ∃ a c, v = .slice a n c := by
  rcases h.2 with ⟨rfl, rfl⟩ | ⟨g, cap, cur, rfl, _⟩
  · exact ⟨none, 0, rfl⟩
  · exact ⟨_, _, rfl⟩
end Go.Proofs.YtidljnkalaklmaaDoor.W
namespace Go.Proofs.YtidljnkalaklmaaDoor.W
open Go.RowKit
set_option maxRecDepth 1000000
/-- The digits of a number, at most f + 1 of them. -/
def pvF : Nat → Int → List Int
  | 0, n => [n]
  | f + 1, n => if n < 128 then [n] else (n % 128 + 128) :: pvF f (n / 128)
def pv (n : Int) : List Int := pvF 9 n
/-- Reading: what is left, which byte it is, what is read so far, the place. -/
def gvF : List Int → Nat → Int → Int → Int × Int × Int
  | [], _, _, _ => (0, 0, 3)
  | c :: r, k, X, at0 => if k = 9 ∧ 1 < c then (0, 0, 4) else if c < 128 then (X + c * 2 ^ (7 * k), at0 + k + 1, 0) else gvF r (k + 1) (X + (c - 128) * 2 ^ (7 * k)) at0
def gv (xs : List Int) (at0 : Nat) : Int × Int × Int := gvF (xs.drop at0) 0 0 at0
theorem pvF_small (f : Nat) {n : Int} (h : n < 128) : pvF f n = [n] := by cases f <;> simp [pvF, h]
theorem pvF_big (f : Nat) {n : Int} (h : ¬ n < 128) : pvF (f + 1) n = (n % 128 + 128) :: pvF f (n / 128) := by simp [pvF, h]
theorem div_lt (f : Nat) {n : Int} (h : n < 128 ^ (f + 1)) : n / 128 < 128 ^ f := Int.ediv_lt_of_lt_mul (by decide) (by rwa [← Int.pow_succ])
theorem lt_ten {n : Int} (h : n < 18446744073709551616) : n < 128 ^ (9 + 1) := by
  have e : (128 : Int) ^ (9 + 1) = 1180591620717411303424 := by decide
  rw [e]; omega
theorem pvF_bd : ∀ (f : Nat) (n : Int), 0 ≤ n → n < 128 ^ (f + 1) → ∀ x ∈ pvF f n, 0 ≤ x ∧ x ≤ 255
  | 0, n, h0, h1, x, hx => by simp [pvF] at hx; subst hx; simp at h1; omega
  | f + 1, n, h0, h1, x, hx => by
    by_cases h : n < 128
    · rw [pvF_small _ h] at hx; simp at hx; subst hx; omega
    · rw [pvF_big _ h] at hx
      rcases List.mem_cons.1 hx with rfl | hx
      · omega
      · exact pvF_bd f _ (by omega) (div_lt _ h1) x hx
theorem pvF_len : ∀ (f : Nat) (n : Int), 1 ≤ (pvF f n).length ∧ (pvF f n).length ≤ f + 1
  | 0, n => by simp [pvF]
  | f + 1, n => by
    by_cases h : n < 128
    · rw [pvF_small _ h]; simp
    · rw [pvF_big _ h]; have := pvF_len f (n / 128); simp; omega
theorem pv_bd {n : Int} (h0 : 0 ≤ n) (h1 : n < 18446744073709551616) : ∀ x ∈ pv n, 0 ≤ x ∧ x ≤ 255 := pvF_bd 9 n h0 (lt_ten h1)
theorem pv_len (n : Int) : 1 ≤ (pv n).length ∧ (pv n).length ≤ 10 := pvF_len 9 n
/-- How many bytes are still to be counted. -/
def cntF (f : Nat) (N : Int) : Int := if N = 0 then 0 else ((pvF f N).length : Int)
theorem cnt_start (n : Int) (h0 : 0 ≤ n) : 1 + cntF 8 (n / 128) = ((pv n).length : Int) := by
  unfold cntF pv
  by_cases h : n < 128
  · rw [pvF_small 9 h, if_pos (by omega)]; rfl
  · rw [pvF_big 8 h, if_neg (by omega)]; simp; omega
theorem cnt_step (f : Nat) (N : Int) (h0 : 0 < N) (h1 : N < 128 ^ (f + 1)) : ∃ g, N / 128 < 128 ^ (g + 1) ∧ 1 + cntF g (N / 128) = cntF f N := by
  unfold cntF
  rw [if_neg (show ¬ N = 0 by omega)]
  by_cases h : N < 128
  · refine ⟨0, by simp; omega, ?_⟩
    rw [pvF_small f h, if_pos (by omega)]
    rfl
  · cases f with
    | zero => simp at h1; omega
    | succ g => exact ⟨g, div_lt _ h1, by rw [pvF_big g h, if_neg (by omega)]; simp; omega⟩
theorem cnt_zero (f : Nat) : cntF f 0 = 0 := by simp [cntF]
theorem cnt_nonneg (f : Nat) (N : Int) : 0 ≤ cntF f N := by unfold cntF; split <;> omega
theorem and127 (n : Int) (h₀ : 0 ≤ n) (h₁ : n < 18446744073709551616) : bits .and .u64 n 127 = n % 128 := bits_mask .u64 64 (by decide) wraps_u64 7 (by decide) n h₀ (by omega)
theorem or128 (n : Int) (h₀ : 0 ≤ n) (h₁ : n < 128) : bits .or .u64 n 128 = n + 128 := u64_orv7 n 128 h₀ h₁ (by decide) (by decide) (by decide)
theorem digit (n : Int) (h₀ : 0 ≤ n) (h₁ : n < 18446744073709551616) : bits .or .u64 (bits .and .u64 n 127) 128 = n % 128 + 128 := by
  rw [and127 n h₀ h₁, or128 _ (by omega) (by omega)]
/-- One byte more, by 'or'. -/
theorem or_step (k : Nat) (hk : k ≤ 9) (X c : Int) (hX0 : 0 ≤ X) (hX : X < 2 ^ (7 * k)) (hc0 : 0 ≤ c) (hc : c < 128) (h9 : k = 9 → c ≤ 1) :
    c * 2 ^ (7 * k) < 18446744073709551616 ∧ 0 ≤ c * 2 ^ (7 * k) ∧ bits .or .u64 X (c * 2 ^ (7 * k)) = X + c * 2 ^ (7 * k) := by
  have e : (18446744073709551616 : Int) = 2 ^ 64 := by decide
  have hlt : c * 2 ^ (7 * k) < 18446744073709551616 := by
    match k, hk with
    | 0, _ => simp; omega
    | 1, _ => simp; omega
    | 2, _ => simp; omega
    | 3, _ => simp; omega
    | 4, _ => simp; omega
    | 5, _ => simp; omega
    | 6, _ => simp; omega
    | 7, _ => simp; omega
    | 8, _ => simp; omega
    | 9, _ => have := h9 rfl; simp; omega
  have hp : (0 : Int) < 2 ^ (7 * k) := Int.pow_pos (by decide)
  have h0 : 0 ≤ c * 2 ^ (7 * k) := Int.mul_nonneg hc0 (Int.le_of_lt hp)
  refine ⟨hlt, h0, bits_join_low .u64 64 (by decide) wraps_u64 (7 * k) X _ hX0 hX ?_ h0 (Int.mul_emod_left _ _) (e ▸ hlt)⟩
  have hn : (2 : Nat) ^ (7 * k) ≤ 2 ^ 64 := Nat.pow_le_pow_right (by decide) (by omega)
  exact Int.lt_of_lt_of_le hX (by exact_mod_cast hn)
theorem step_lt (k : Nat) (X c : Int) (hX : X < 2 ^ (7 * k)) (hc : c < 128) : X + c * 2 ^ (7 * k) < 2 ^ (7 * (k + 1)) := by
  have e : (2 : Int) ^ (7 * (k + 1)) = 128 * 2 ^ (7 * k) := by rw [show 7 * (k + 1) = 7 * k + 7 by omega, Int.pow_add]; omega
  have hp : (0 : Int) < 2 ^ (7 * k) := Int.pow_pos (by decide)
  have : c * 2 ^ (7 * k) ≤ 127 * 2 ^ (7 * k) := Int.mul_le_mul_of_nonneg_right (by omega) (Int.le_of_lt hp)
  rw [e]; omega
theorem and127b (c : Int) (h₀ : 0 ≤ c) (h₁ : c ≤ 255) : bits .and .u8 c 127 = c % 128 := u8_and127 c h₀ (by omega)
theorem step_val (k : Nat) (hk : k ≤ 9) (X c : Int) (hX0 : 0 ≤ X) (hX : X < 2 ^ (7 * k)) (hc0 : 0 ≤ c) (hc : c ≤ 255) (h9 : k = 9 → c ≤ 1) :
    bits .or .u64 X (IntKind.u64.wrap (IntKind.u64.wrap (bits .and .u8 c 127) * 2 ^ (7 * k))) = X + c % 128 * 2 ^ (7 * k) := by
  obtain ⟨h1, h2, h3⟩ := or_step k hk X (c % 128) hX0 hX (by omega) (by omega) (fun h => by have := h9 h; omega)
  rw [and127b c hc0 hc, wraps_u64 (c % 128) (by omega) (by omega), wraps_u64 _ h2 (by omega), h3]
section
variable {xs : List Int} {p k : Nat} {X : Int}
theorem g_bad (h : p + k < xs.length) (h9 : (k : Int) = 9) (hc : 1 < xs[p + k]?.getD 0) : gvF (xs.drop (p + k)) k X p = (0, 0, 4) := by
  have : k = 9 := by omega
  rw [drop_at h]; simp [gvF, this] at hc ⊢; intro h; omega
theorem g_last (h : p + k < xs.length) (h9 : (k : Int) = 9 → xs[p + k]?.getD 0 ≤ 1) (hc0 : 0 ≤ xs[p + k]?.getD 0) (hc : xs[p + k]?.getD 0 < 128) : gvF (xs.drop (p + k)) k X p = (X + xs[p + k]?.getD 0 % 128 * 2 ^ (7 * k), (p : Int) + k + 1, 0) := by
  rw [drop_at h, gvF, if_neg (by intro ⟨a, b⟩; have := h9 (by omega); omega), if_pos hc, Int.emod_eq_of_lt hc0 hc]
theorem g_more (h : p + k < xs.length) (h9 : ¬ (k : Int) = 9) (hc : 128 ≤ xs[p + k]?.getD 0) (hc1 : xs[p + k]?.getD 0 ≤ 255) : gvF (xs.drop (p + k)) k X p = gvF (xs.drop (p + (k + 1))) (k + 1) (X + xs[p + k]?.getD 0 % 128 * 2 ^ (7 * k)) p := by
  rw [drop_at h, gvF, if_neg (by intro ⟨a, b⟩; omega), if_neg (by omega), show xs[p + k]?.getD 0 % 128 = xs[p + k]?.getD 0 - 128 by omega]; rfl
theorem g_end (h : xs.length ≤ p + k) : gvF (xs.drop (p + k)) k X p = (0, 0, 3) := by
  rw [List.drop_eq_nil_of_le h]; rfl
end
theorem gv_end (xs : List Int) (p : Nat) (h : xs.length ≤ p) : gv xs p = (0, 0, 3) := by
  unfold gv; rw [List.drop_eq_nil_of_le h]; rfl
end Go.Proofs.YtidljnkalaklmaaDoor.W
