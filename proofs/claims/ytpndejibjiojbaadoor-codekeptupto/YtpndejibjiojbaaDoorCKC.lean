/-
  Steps laid one behind the other.
  A step whose place is known later.
  A Case and what follows it.
  What follows a Case.
  What follows a Case, and what is written.
  What is written of a field.
  A message's steps: Enc, Dec.
  A message's steps: Enc.
  Rows, sorted.
  An enum's rows.
  The names of a message's oneofs and fields.
  Fields are found by halving.
  Ranges that are free.
  A message by itself; a type by itself.
  A type by itself.
  A name cut at its dots.
  A full name: its names, and how many.
  The names ahead, in a map.
  What is around a type.
  A table is good: what the program answers.
  A type's block.
  LowerType.
  Lower.
  Steps and rows compared.
  Blocks that are the same: the document's question.
  What a valid program's steps are asked: where all is well.
  What a program's numbers may be, and the document's small questions.
  The document's small questions: fields, tags, kinds, blocks, how many numbers an operation names.
  What a valid program's steps are asked: where all is well, operation by operation.
  What a valid program's steps are asked: where all is well, operation by operation.
  What a valid program's steps are asked: where all is well, operation by operation.
  A valid block's steps, where all is well.
  Rows of a valid block, where all is well.
  Valid, where all is well.
  The program's small questions about a program's numbers, both ways.
-/
import Derived.Test.YtpndejibjiojbaaDoorCTA
import Derived.Deep.RegionHeld3
import Derived.Laws.BitsLemmas
import Derived.Test.YtpndejibjiojbaaDoorShelf
import Derived.Lib.BitFns
import Derived.Laws.StructEq
namespace Go.Proofs.YtpndejibjiojbaaDoor
open Go.RowKit
set_option maxRecDepth 1000000
set_option linter.unusedVariables false
set_option linter.unusedSimpArgs false
set_option maxHeartbeats 1000000
theorem step_append_ran {P : Program} {ops : Array Oper} {o : Oper} {a : Act} {w : World} {K : Act → World → Prop} {Q : Exit → Act → World → Prop} {E : Prop}
    (hg : o.guard = none) (s x : Operand) (t ty : TypeId) (hop : o.op = Op.call { callee := Callee.builtin Builtin.append, args := #[s, x], argTypes := #[t, t] }) (hty : o.type = ty)
    (v xv v' : Value) (w' : World) (hs : a.eval s = v) (hx : a.eval x = xv) (hr : (Builtin.append_ #[t, t] ty #[v, xv]).run P w = .ok v' w') (hK : K (a.put o.dst v') w') :
    if Region.wanted o (yielded ops a.tmps) = true then Oper.wp P o a w K Q else E := by
  have hw : Region.wanted o (yielded ops a.tmps) = true := by simp [Region.wanted, hg]
  rw [if_pos hw]
  subst hty
  unfold Oper.wp
  simp [execOp, hop, resolve, invoke, builtin, hs, hx, hr, Result.andThen]
  exact hK
/-- What stays where steps are laid: all below base, and all else but the layout and rows of steps. -/
structure LF (base p : Nat) (w w' : World) : Prop where
  os : w'.os = w.os
  tape : w'.tape = w.tape
  output : w'.output = w.output
  size : w.heap.size ≤ w'.heap.size
  block : ∀ k, k < w.heap.size → k < base ∨ (k ≠ p ∧ ∀ cs fr, w.heap[k]? ≠ some (.cells cs 37 fr)) → w'.heap[k]? = w.heap[k]?
theorem LF.refl (base p : Nat) (w : World) : LF base p w w := ⟨rfl, rfl, rfl, Nat.le_refl _, fun _ _ _ => rfl⟩
theorem LF.trans {base p : Nat} {w w1 w2 : World} (h : LF base p w w1) (g : LF base p w1 w2) : LF base p w w2 :=
  ⟨g.os.trans h.os, g.tape.trans h.tape, g.output.trans h.output, Nat.le_trans h.size g.size, fun k hk hf => by
    have e := h.block k hk hf
    rw [g.block k (Nat.lt_of_lt_of_le hk h.size) (hf.imp id fun ⟨h1, h2⟩ => ⟨h1, fun cs fr => by rw [e]; exact h2 cs fr⟩), e]⟩
theorem LF.ofBelow {base p : Nat} {w w' : World} (h : Below w.heap.size w w') : LF base p w w' := ⟨h.os, h.tape, h.output, h.size, fun k hk _ => h.block k hk⟩
theorem LF.below {base p : Nat} {w w' : World} (h : LF base p w w') (hb : base ≤ w.heap.size) : Below base w w' := ⟨h.os, h.tape, h.output, h.size, fun k hk => h.block k (by omega) (.inl hk)⟩
theorem LF.set {base p : Nat} (w : World) (i : Nat) (v : Value) (hp : base ≤ p) : LF base p w (w.setCell ⟨p, i, none⟩ v) :=
  ⟨rfl, rfl, rfl, by simp [World.setCell], fun k hk hf => Below.heap_setCell _ _ _ _ (fun e => by
    have e' : k = p := e
    rcases hf with hf | ⟨hf, _⟩
    · omega
    · exact hf e')⟩
theorem LF.pre {base p : Nat} {w w1 w2 : World} (g : LF base p w1 w2) (hb : Below w.heap.size w w1) : LF base p w w2 := (LF.ofBelow hb).trans g
def ints (ns : List Int) : Array Value := (ns.map (fun n => Value.int .i64 n)).toArray
theorem rowOf' {w : World} {b : Nat} {t : TypeId} {cs : Array Value} (B : Blk w b t cs) (k n : Nat) (fl : List Value) (h : cs = fl.toArray) (hl : fl.length = n * k) (hn : n ≤ 9223372036854775807) : RowS w AnyZ k (.slice (some ⟨b, 0, none⟩) n n) n fl :=
  ⟨some ⟨b, 0, none⟩, n, rfl, hl, Nat.le_refl _, hn, .inr ⟨b, 0, rfl, trivial, fun j u hu => by
    rw [Nat.zero_add]
    exact B.cell j u (by rw [h, List.getElem?_toArray]; exact hu)⟩⟩
theorem mapI : ∀ ns : List Int, ns.map (fun n => Value.int .i64 n) = ns.flatMap cI64
  | [] => rfl
  | a :: r => by rw [List.map_cons, List.flatMap_cons, mapI r]; rfl
theorem ints_row {w : World} {b : Nat} (ns : List Int) (hl : ns.length ≤ 4) (B : Blk w b 3 (ints ns)) : RowS w AnyZ 1 (.slice (some ⟨b, 0, none⟩) ns.length ns.length) ns.length (ns.flatMap cI64) :=
  rowOf' B 1 ns.length _ (by unfold ints; congr 1; exact mapI ns) (flatM_len (g := cI64) (fun _ => rfl) ns) (by omega)
theorem wraps_i64 (n : Int) (h0 : 0 ≤ n) (h1 : n < 2 ^ 62) : IntKind.i64.wrap n = n := by
  simp [IntKind.wrap, IntKind.bits, IntKind.signed]
  omega
theorem LF.keep {base p : Nat} {w w' : World} (h : LF base p w w') (hb : base ≤ w.heap.size) : Keep (· < base) w w' := ⟨h.os, h.tape, h.output, h.size, fun k hk hf => h.block k hk (.inl hf)⟩
theorem cf_enter {f : FuncId} {fn : Func} (hf : Tryd.prog.funcs[f]? = some fn) (hname : (fn.name == "runtime.NumGoroutine") = false) (hb : fn.body.isNone = false) (args : Array Value) (W : World) : (callFunc f args).run Tryd.prog W = .ok (.enter f args) W := by
  unfold callFunc
  simp only [Sem.run_bind, run_program, Result.andThen_ok, hf, hname, hb, Bool.false_eq_true, if_false, Sem.run_pure]
set_option maxHeartbeats 600000
/-- Numbers rise. -/
def Rise (fs : List FT) : Prop := ∀ i j, i < j → ∀ (hj : j < fs.length) (hi : i < fs.length), fs[i].num < fs[j].num
/-- While it halves. -/
structure Halv (fs : List FT) (n : Int) (k first left : Nat) : Prop where
  le : left ≤ 2 ^ k
  one : 1 ≤ left
  fit : first + left ≤ fs.length
  up : ∀ i, first + left ≤ i → ∀ (h : i < fs.length), n < fs[i].num
  lo : first = 0 ∨ ∀ (h : first < fs.length), fs[first].num ≤ n
theorem Halv.yes {fs : List FT} {n : Int} {k first left : Nat} (h : Halv fs n (k + 1) first left) (hq : ∀ (q : first + left / 2 < fs.length), fs[first + left / 2].num ≤ n) : Halv fs n k (first + left / 2) (left - left / 2) := by
  have h1 := h.le
  have h2 := h.one
  have h3 := h.fit
  rw [Nat.pow_succ] at h1
  exact ⟨by omega, by omega, by omega, fun i hi hh => h.up i (by omega) hh, .inr hq⟩
theorem Halv.no {fs : List FT} {n : Int} {k first left : Nat} (h : Halv fs n (k + 1) first left) (hr : Rise fs) (h0 : 2 ≤ left) (hq : ∀ (q : first + left / 2 < fs.length), n < fs[first + left / 2].num) : Halv fs n k first (left - left / 2) := by
  have h1 := h.le
  have h2 := h.one
  have h3 := h.fit
  rw [Nat.pow_succ] at h1
  refine ⟨by omega, by omega, by omega, fun i hi hh => ?_, h.lo⟩
  by_cases e : i = first + left / 2
  · subst e; exact hq hh
  · by_cases hl : i < first + left / 2
    · omega
    · exact Int.lt_trans (hq (by omega)) (hr _ _ (by omega) hh (by omega))
theorem Halv.still {fs : List FT} {n : Int} {k first left : Nat} (h : Halv fs n (k + 1) first left) (h0 : left = 1) : Halv fs n k first (left - left / 2) := by
  subst h0
  exact ⟨Nat.one_le_two_pow, by decide, h.fit, h.up, h.lo⟩
/-- What lastUpTo answers. -/
def LutR (fs : List FT) (n : Int) (w : World) (e : Ending) (w' : World) : Prop := ((e = .returned (.tuple #[.agg #[.string ⟨#[]⟩, .int .i64 0, .int .i64 0, .int .i64 0, .int .i64 0, .int .i64 0, .int .i64 0], .bool false]) ∧ (∀ i, ∀ (h : i < fs.length), n < fs[i].num)) ∨ (∃ (k : Nat) (hk : k < fs.length), e = .returned (.tuple #[.agg #[.string (strOfNums fs[k].name), .int .i64 fs[k].num, .int .i64 fs[k].kind, .int .i64 fs[k].ref, .int .i64 fs[k].lab, .int .i64 fs[k].one, .int .i64 fs[k].key], .bool true]) ∧ fs[k].num ≤ n ∧ ∀ i, k < i → ∀ (h : i < fs.length), n < fs[i].num)) ∧ Below w.heap.size w w'
theorem LutR.no {fs : List FT} {n : Int} {w w' : World} (h : ∀ i, ∀ (h : i < fs.length), n < fs[i].num) (hb : Below w.heap.size w w') : LutR fs n w (.returned (.tuple #[.agg #[.string ⟨#[]⟩, .int .i64 0, .int .i64 0, .int .i64 0, .int .i64 0, .int .i64 0, .int .i64 0], .bool false])) w' := ⟨.inl ⟨rfl, h⟩, hb⟩
theorem LutR.yes {fs : List FT} {n : Int} {w w' : World} (k : Nat) (hk : k < fs.length) (h1 : fs[k].num ≤ n) (h : ∀ i, k < i → ∀ (h : i < fs.length), n < fs[i].num) (hb : Below w.heap.size w w') : LutR fs n w (.returned (.tuple #[.agg #[.string (strOfNums fs[k].name), .int .i64 fs[k].num, .int .i64 fs[k].kind, .int .i64 fs[k].ref, .int .i64 fs[k].lab, .int .i64 fs[k].one, .int .i64 fs[k].key], .bool true])) w' := ⟨.inr ⟨k, hk, rfl, h1, h⟩, hb⟩
set_option maxHeartbeats 1000000
structure BK where
  dec : List IN
  enc : List IN
  rows : List LN
/-- A block of one's own. -/
structure BkO (w : World) (base : Nat) (k : BK) (d e r : Value) : Prop where
  hd : w.ownsRow base 37 5 d k.dec.length (k.dec.flatMap cIN)
  he : w.ownsRow base 37 5 e k.enc.length (k.enc.flatMap cIN)
  hr : w.ownsRow base 50 2 r k.rows.length (k.rows.flatMap cLN)
  ap : ∀ b, d.ownBlock = some b → e.ownBlock ≠ some b
theorem BkO.kept {w w' : World} {base : Nat} {k : BK} {d e r : Value} (h : BkO w base k d e r) (g : Below w.heap.size w w') : BkO w' base k d e r := ⟨own_kept h.hd g, own_kept h.he g, own_kept h.hr g, h.ap⟩
theorem BkO.mono {w : World} {base base' : Nat} {k : BK} {d e r : Value} (h : BkO w base k d e r) (g : base' ≤ base) : BkO w base' k d e r := ⟨own_mono h.hd g, own_mono h.he g, own_mono h.hr g, h.ap⟩
theorem rowOldP {w : World} {Z : Nat → Prop} {k : Nat} {v : Value} {n : Nat} {fl : List Value} (hk : 0 < k) (h : RowS w Z k v n fl) : RowS w (fun b => b < w.heap.size) k v n fl := by
  obtain ⟨a, c, e, h⟩ := h
  refine ⟨a, c, e, h.length, h.le, h.max, ?_⟩
  rcases h.cells with h0 | ⟨b, off, rfl, hz, hc⟩
  · exact .inl h0
  · by_cases hn : n = 0
    · exact .inl ⟨hn, fun q => by cases q⟩
    · have hlt : 0 < fl.length := by rw [h.length]; exact Nat.mul_pos (by omega) hk
      exact .inr ⟨b, off, rfl, World.block_lt_of_cell? _ _ (hc 0 _ (List.getElem?_eq_getElem hlt)), hc⟩
/-- A block and the values of its three lists. -/
structure BV where
  k : BK
  d : Value
  e : Value
  r : Value
def cBV (x : BV) : List Value := [x.d, x.e, x.r]
structure LwO (w : World) (base : Nat) (v : Value) (xs : List BV) : Prop where
  row : w.ownsRow base 35 3 v xs.length (xs.flatMap cBV)
  el : ∀ x ∈ xs, BkO w base x.k x.d x.e x.r
theorem LwO.kept {w w' : World} {base : Nat} {v : Value} {xs : List BV} (h : LwO w base v xs) (g : Below w.heap.size w w') : LwO w' base v xs := ⟨own_kept h.row g, fun x hx => (h.el x hx).kept g⟩
theorem Tryd.infoPB : (Tryd.prog.info? 35).map (fun i => (i.zero, i.size, i.bytes)) = some (some (.agg #[.slice none 0 0, .slice none 0 0, .slice none 0 0]), 3, 72) := by kernel_rfl
/-- One block more. -/
theorem LwO.push {w : World} {base : Nat} {v : Value} {xs : List BV} (h : LwO w base v xs) (hb : base ≤ w.heap.size) (hn : xs.length ≤ 4000000) (k : BK) (da ea ra : Option Addr) (n1 dc n2 ec n3 rc : Nat) (ho : BkO w base k (.slice da n1 dc) (.slice ea n2 ec) (.slice ra n3 rc)) :
    ∃ a c w', Hid ((Builtin.append_ #[22, 22] 22 #[v, .slice (some ⟨w.heap.size, 0, none⟩) 1 1]).run Tryd.prog (w.alloc (.cells #[.slice da n1 dc, .slice ea n2 ec, .slice ra n3 rc] 35)) = .ok (.slice a (xs.length + 1) c) w') ∧ Hid (LwO w' base (.slice a (xs.length + 1) c) (xs ++ [⟨k, .slice da n1 dc, .slice ea n2 ec, .slice ra n3 rc⟩])) ∧ Hid (Grow w w' v (.slice a (xs.length + 1) c)) := by
  obtain ⟨v', w', h1, h2, h3⟩ := append_st 35 22 3 72 (.agg #[.slice none 0 0, .slice none 0 0, .slice none 0 0]) Tryd.underlying22 Tryd.infoPB rfl (by decide) (by decide) base v xs.length (xs.flatMap cBV) w #[.slice da n1 dc, .slice ea n2 ec, .slice ra n3 rc] rfl (fun u hu => by simp at hu; rcases hu with rfl | rfl | rfl <;> rfl) h.row hb hn
  obtain ⟨a, c, rfl⟩ := own_shape h2
  have hk : ∀ {k : BK} {d e r : Value}, BkO w base k d e r → BkO w' base k d e r := fun q => ⟨grow_own h3 h.row q.hd (by decide), grow_own h3 h.row q.he (by decide), grow_own h3 h.row q.hr (by decide), q.ap⟩
  refine ⟨a, c, w', hid h1, hid ⟨by rw [List.flatMap_append, List.length_append]; exact h2, fun x hx => ?_⟩, hid h3⟩
  rcases List.mem_append.1 hx with hx | hx
  · exact hk (h.el x hx)
  · simp at hx
    subst hx
    exact hk ho
def inB (x y : IN) : Bool := (x.op == y.op) && ((x.a == y.a) && ((x.b == y.b) && ((x.c == y.c) && (x.d == y.d))))
def lnB (x y : LN) : Bool := (x.tag == y.tag) && (x.pl == y.pl)
theorem inB_iff (x y : IN) : inB x y = true ↔ x = y := by
  cases x
  cases y
  simp [inB]
theorem lnB_iff (x y : LN) : lnB x y = true ↔ x = y := by
  cases x
  cases y
  simp [lnB]
theorem eqIN (x y : IN) (w : World) : (Op.equalIn 10000 37 (.agg #[.int .i64 x.op, .int .i64 x.a, .int .i64 x.b, .int .i64 x.c, .int .i64 x.d]) (.agg #[.int .i64 y.op, .int .i64 y.a, .int .i64 y.b, .int .i64 y.c, .int .i64 y.d])).run Tryd.prog w = .ok (inB x y) w := by
  have u3 := Tryd.underlying3
  have a3 := Tryd.isAgg3
  have z3 := Tryd.sizeOf3
  have hS : Tryd.prog.underlying 37 = some (.struct (Tryd.prog.fieldsOf 37)) := by kernel_rfl
  have hp : Tryd.prog.stoodInHeld 37 = false := by kernel_rfl
  unfold inB
  rw [show (10000 : Nat) = 9999 + 1 from rfl, run_equalIn_agg w 9999 37 _ _ hS hp]
  simp only [Program.fieldsOf, Tryd.underlying37]
  go_simp
  by_cases h1 : x.op = y.op <;> by_cases h2 : x.a = y.a <;> by_cases h3 : x.b = y.b <;> by_cases h4 : x.c = y.c <;> by_cases h5 : x.d = y.d <;> simp [h1, h2, h3, h4, h5]
theorem eqLN (x y : LN) (w : World) : (Op.equalIn 10000 50 (.agg #[.int .i64 x.tag, .int .i64 x.pl]) (.agg #[.int .i64 y.tag, .int .i64 y.pl])).run Tryd.prog w = .ok (lnB x y) w := by
  have u3 := Tryd.underlying3
  have a3 := Tryd.isAgg3
  have z3 := Tryd.sizeOf3
  have hS : Tryd.prog.underlying 50 = some (.struct (Tryd.prog.fieldsOf 50)) := by kernel_rfl
  have hp : Tryd.prog.stoodInHeld 50 = false := by kernel_rfl
  unfold lnB
  rw [show (10000 : Nat) = 9999 + 1 from rfl, run_equalIn_agg w 9999 50 _ _ hS hp]
  simp only [Program.fieldsOf, Tryd.underlying50]
  go_simp
  by_cases h1 : x.tag = y.tag <;> by_cases h2 : x.pl = y.pl <;> simp [h1, h2]
theorem gdIN : Tryd.prog.eqGuardType Tryd.prog.depth 37 = false := by kernel_rfl
theorem gdLN : Tryd.prog.eqGuardType Tryd.prog.depth 50 = false := by kernel_rfl
/-- A block, in memory. -/
structure BkR (w : World) (k : BK) (d e r : Value) : Prop where
  hd : RowS w AnyZ 5 d k.dec.length (k.dec.flatMap cIN)
  he : RowS w AnyZ 5 e k.enc.length (k.enc.flatMap cIN)
  hr : RowS w AnyZ 2 r k.rows.length (k.rows.flatMap cLN)
theorem BkR.kept {w w' : World} {k : BK} {d e r : Value} (h : BkR w k d e r) (g : Below w.heap.size w w') : BkR w' k d e r := ⟨h.hd.kept g, h.he.kept g, h.hr.kept g⟩
theorem BkO.row {w : World} {base : Nat} {k : BK} {d e r : Value} (h : BkO w base k d e r) : BkR w k d e r := ⟨own_row h.hd (fun _ _ => trivial), own_row h.he (fun _ _ => trivial), own_row h.hr (fun _ _ => trivial)⟩
/-- A bool that says P. -/
def EqA (w : World) (P : Prop) (e : Ending) (w' : World) : Prop := ∃ r : Bool, e = .returned (.bool r) ∧ (r = true ↔ P) ∧ Below w.heap.size w w'
theorem EqA.yes {w w' : World} {P : Prop} (h : P) (hb : Below w.heap.size w w') : EqA w P (.returned (.bool true)) w' := ⟨true, rfl, ⟨fun _ => h, fun _ => rfl⟩, hb⟩
theorem EqA.no {w w' : World} {P : Prop} (h : ¬ P) (hb : Below w.heap.size w w') : EqA w P (.returned (.bool false)) w' := ⟨false, rfl, ⟨fun q => (by cases q), fun q => absurd q h⟩, hb⟩
theorem bk_eq {A B : BK} (h1 : A.dec = B.dec) (h2 : A.enc = B.enc) (h3 : A.rows = B.rows) : A = B := by
  cases A
  cases B
  simp only [BK.mk.injEq]
  exact ⟨h1, h2, h3⟩
theorem sameBlockD (w : World) (A B : BK) (aa ba ca da ea fa : Option Addr) (ac bc cc dc ec fc : Nat) (hA : BkR w A (.slice aa A.dec.length ac) (.slice ba A.enc.length bc) (.slice ca A.rows.length cc)) (hB : BkR w B (.slice da B.dec.length dc) (.slice ea B.enc.length ec) (.slice fa B.rows.length fc)) : Calls Tryd.prog 14 #[.agg #[.slice aa A.dec.length ac, .slice ba A.enc.length bc, .slice ca A.rows.length cc], .agg #[.slice da B.dec.length dc, .slice ea B.enc.length ec, .slice fa B.rows.length fc]] w (EqA w (A = B)) := by
  have HA := hid hA
  have HB := hid hB
  obtain ⟨_, _, e, hn1⟩ := rowS_sl hA.hd
  clear e
  obtain ⟨_, _, e, hn2⟩ := rowS_sl hA.he
  clear e
  obtain ⟨_, _, e, hn3⟩ := rowS_sl hA.hr
  clear e
  obtain ⟨_, _, e, hm1⟩ := rowS_sl hB.hd
  clear e
  obtain ⟨_, _, e, hm2⟩ := rowS_sl hB.he
  clear e
  obtain ⟨_, _, e, hm3⟩ := rowS_sl hB.hr
  clear e
  clear hA hB
  by_cases h1 : A.dec.length = B.dec.length
  case neg =>
    have q1 : ((A.dec.length : Int) == (B.dec.length : Int)) = false := by rw [beq_eq_false_iff_ne]; omega
    go_enter Tryd.func14, Tryd.ntmps14
    go_wp2
    go_ret
    exact ⟨false, rfl, ⟨fun q => (by cases q), fun q => absurd (by rw [q]) h1⟩, by exact blBy⟩
  by_cases h2 : A.enc.length = B.enc.length
  case neg =>
    have q1 : ((A.dec.length : Int) == (B.dec.length : Int)) = true := by simp [h1]
    have q2 : ((A.enc.length : Int) == (B.enc.length : Int)) = false := by rw [beq_eq_false_iff_ne]; omega
    go_enter Tryd.func14, Tryd.ntmps14
    go_wp2
    go_ret
    exact ⟨false, rfl, ⟨fun q => (by cases q), fun q => absurd (by rw [q]) h2⟩, by exact blBy⟩
  by_cases h3 : A.rows.length = B.rows.length
  case neg =>
    have q1 : ((A.dec.length : Int) == (B.dec.length : Int)) = true := by simp [h1]
    have q2 : ((A.enc.length : Int) == (B.enc.length : Int)) = true := by simp [h2]
    have q3 : ((A.rows.length : Int) == (B.rows.length : Int)) = false := by rw [beq_eq_false_iff_ne]; omega
    go_enter Tryd.func14, Tryd.ntmps14
    go_wp2
    go_ret
    exact ⟨false, rfl, ⟨fun q => (by cases q), fun q => absurd (by rw [q]) h3⟩, by exact blBy⟩
  rw [← h1, ← h2, ← h3] at HB ⊢
  have z1 : (A.dec.length : Int) ≤ 9223372036854775807 := by omega
  have z2 : (A.enc.length : Int) ≤ 9223372036854775807 := by omega
  have z3 : (A.rows.length : Int) ≤ 9223372036854775807 := by omega
  clear hn1 hn2 hn3 hm1 hm2 hm3
  replace h1 := hid h1
  replace h2 := hid h2
  replace h3 := hid h3
  go_enter Tryd.func14, Tryd.ntmps14
  go_wp2
  go_loopw [5] (fun r wr => ∃ j : Nat, r = .int .i64 j ∧ j ≤ A.dec.length ∧ Hid (A.dec.take j = B.dec.take j) ∧ Hid (Blk wr w.heap.size 35 #[.slice aa A.dec.length ac, .slice ba A.enc.length bc, .slice ca A.rows.length cc]) ∧ Hid (Blk wr (w.heap.size + 1) 35 #[.slice da A.dec.length dc, .slice ea A.enc.length ec, .slice fa A.rows.length fc]) ∧ Hid (Below w.heap.size w wr)) (fun r wr => A.dec.length - numAt wr r)
  case atStart => exact ⟨0, rfl, by omega, hid (by simp), hid ((Blk.new _ _ _).kept (below_alloc _)), hid (Blk.newAt (by simp)), hid (by exact blBy)⟩
  case round =>
    obtain ⟨j, rfl, hj, HT, Ba, Bb, hb⟩ := hrel
    have xa := Ba.out.cellF
    have za := Ba.out.lt
    have xb := Bb.out.cellF
    have zb := Bb.out.lt
    by_cases hlt : j < A.dec.length
    · have k1 : (j : Int) < (A.dec.length : Int) := by omega
      have hlt2 : j < B.dec.length := by have := h1.out; omega
      have HTS : Hid (A.dec.take (j + 1) = A.dec.take j ++ [A.dec[j]] ∧ B.dec.take (j + 1) = B.dec.take j ++ [B.dec[j]]) := hid ⟨List.take_succ_eq_append_getElem hlt, List.take_succ_eq_append_getElem hlt2⟩
      have HNE : Hid (A.dec[j] ≠ B.dec[j] → A ≠ B) := hid (fun q e => q (by subst e; rfl))
      obtain ⟨pb, po, epb, hc⟩ := rowAt (g := cIN) (fun _ => rfl) (HA.out.hd.kept hb.out) (i := j) (x := A.dec[j]) (by simp [hlt])
      obtain ⟨qb, qo, eqb, hd⟩ := rowAt (g := cIN) (fun _ => rfl) (HB.out.hd.kept hb.out) (i := j) (x := B.dec[j]) (by simp [hlt2])
      subst epb eqb
      have c0 := hc 0 _ rfl
      have d0 := hd 0 _ rfl
      have c1 := hc 1 _ rfl
      have d1 := hd 1 _ rfl
      have c2 := hc 2 _ rfl
      have d2 := hd 2 _ rfl
      have c3 := hc 3 _ rfl
      have d3 := hd 3 _ rfl
      have c4 := hc 4 _ rfl
      have d4 := hd 4 _ rfl
      clear hc hd
      simp only [Nat.add_zero] at c0 d0
      have hpb : pb < wr.heap.size := World.block_lt_of_cell? _ _ c0
      have hqb : qb < wr.heap.size := World.block_lt_of_cell? _ _ d0
      generalize A.dec[j] = x at *
      generalize B.dec[j] = y at *
      have hgd := gdIN
      have heq := fun W => eqIN x y W
      cases hq : inB x y with
      | false =>
        rw [hq] at heq
        go_wp2
        go_quiet (fail)
        go_wp2
        go_ret
        exact EqA.no (HNE.out (fun e => by rw [(inB_iff x y).2 e] at hq; cases hq)) (by have := hb.out; first | exact this | exact bl_drewN this _ | exact blBy)
      | true =>
        rw [hq] at heq
        have exy := hid ((inB_iff x y).1 hq)
        go_wp2
        go_quiet (fail)
        go_wp2
        exact ⟨⟨j + 1, by simp, by omega, hid (by rw [HTS.out.1, HTS.out.2, HT.out, exy.out]), hid (Ba.out.kept (below_drewN _ _)), hid (Bb.out.kept (below_drewN _ _)), hid (bl_drewN hb.out _)⟩, by simp [numAt]; omega⟩
    · have k1 : ¬ (j : Int) < (A.dec.length : Int) := by omega
      have Edec : Hid (A.dec = B.dec) := hid (by have := HT.out; rwa [List.take_of_length_le (by omega), List.take_of_length_le (by have := h1.out; omega)] at this)
      go_wp2
      clear hj HT xa za xb zb k1
      go_loopw [6] (fun r wr => ∃ j : Nat, r = .int .i64 j ∧ j ≤ A.enc.length ∧ Hid (A.enc.take j = B.enc.take j) ∧ Hid (Blk wr w.heap.size 35 #[.slice aa A.dec.length ac, .slice ba A.enc.length bc, .slice ca A.rows.length cc]) ∧ Hid (Blk wr (w.heap.size + 1) 35 #[.slice da A.dec.length dc, .slice ea A.enc.length ec, .slice fa A.rows.length fc]) ∧ Hid (Below w.heap.size w wr)) (fun r wr => A.enc.length - numAt wr r)
      case atStart => exact ⟨0, rfl, by omega, hid (by simp), Ba, Bb, hb⟩
      case round =>
        obtain ⟨j, rfl, hj, HT, Ba, Bb, hb⟩ := hrel
        have xa := Ba.out.cellF
        have za := Ba.out.lt
        have xb := Bb.out.cellF
        have zb := Bb.out.lt
        by_cases hlt : j < A.enc.length
        · have k1 : (j : Int) < (A.enc.length : Int) := by omega
          have hlt2 : j < B.enc.length := by have := h2.out; omega
          have HTS : Hid (A.enc.take (j + 1) = A.enc.take j ++ [A.enc[j]] ∧ B.enc.take (j + 1) = B.enc.take j ++ [B.enc[j]]) := hid ⟨List.take_succ_eq_append_getElem hlt, List.take_succ_eq_append_getElem hlt2⟩
          have HNE : Hid (A.enc[j] ≠ B.enc[j] → A ≠ B) := hid (fun q e => q (by subst e; rfl))
          obtain ⟨pb, po, epb, hc⟩ := rowAt (g := cIN) (fun _ => rfl) (HA.out.he.kept hb.out) (i := j) (x := A.enc[j]) (by simp [hlt])
          obtain ⟨qb, qo, eqb, hd⟩ := rowAt (g := cIN) (fun _ => rfl) (HB.out.he.kept hb.out) (i := j) (x := B.enc[j]) (by simp [hlt2])
          subst epb eqb
          have c0 := hc 0 _ rfl
          have d0 := hd 0 _ rfl
          have c1 := hc 1 _ rfl
          have d1 := hd 1 _ rfl
          have c2 := hc 2 _ rfl
          have d2 := hd 2 _ rfl
          have c3 := hc 3 _ rfl
          have d3 := hd 3 _ rfl
          have c4 := hc 4 _ rfl
          have d4 := hd 4 _ rfl
          clear hc hd
          simp only [Nat.add_zero] at c0 d0
          have hpb : pb < wr.heap.size := World.block_lt_of_cell? _ _ c0
          have hqb : qb < wr.heap.size := World.block_lt_of_cell? _ _ d0
          generalize A.enc[j] = x at *
          generalize B.enc[j] = y at *
          have hgd := gdIN
          have heq := fun W => eqIN x y W
          cases hq : inB x y with
          | false =>
            rw [hq] at heq
            go_wp2
            go_quiet (fail)
            go_wp2
            go_ret
            exact EqA.no (HNE.out (fun e => by rw [(inB_iff x y).2 e] at hq; cases hq)) (by have := hb.out; first | exact this | exact bl_drewN this _ | exact blBy)
          | true =>
            rw [hq] at heq
            have exy := hid ((inB_iff x y).1 hq)
            go_wp2
            go_quiet (fail)
            go_wp2
            exact ⟨⟨j + 1, by simp, by omega, hid (by rw [HTS.out.1, HTS.out.2, HT.out, exy.out]), hid (Ba.out.kept (below_drewN _ _)), hid (Bb.out.kept (below_drewN _ _)), hid (bl_drewN hb.out _)⟩, by simp [numAt]; omega⟩
        · have k1 : ¬ (j : Int) < (A.enc.length : Int) := by omega
          have Eenc : Hid (A.enc = B.enc) := hid (by have := HT.out; rwa [List.take_of_length_le (by omega), List.take_of_length_le (by have := h2.out; omega)] at this)
          go_wp2
          clear hj HT xa za xb zb k1
          go_loopw [7] (fun r wr => ∃ j : Nat, r = .int .i64 j ∧ j ≤ A.rows.length ∧ Hid (A.rows.take j = B.rows.take j) ∧ Hid (Blk wr w.heap.size 35 #[.slice aa A.dec.length ac, .slice ba A.enc.length bc, .slice ca A.rows.length cc]) ∧ Hid (Blk wr (w.heap.size + 1) 35 #[.slice da A.dec.length dc, .slice ea A.enc.length ec, .slice fa A.rows.length fc]) ∧ Hid (Below w.heap.size w wr)) (fun r wr => A.rows.length - numAt wr r)
          case atStart => exact ⟨0, rfl, by omega, hid (by simp), Ba, Bb, hb⟩
          case round =>
            obtain ⟨j, rfl, hj, HT, Ba, Bb, hb⟩ := hrel
            have xa := Ba.out.cellF
            have za := Ba.out.lt
            have xb := Bb.out.cellF
            have zb := Bb.out.lt
            by_cases hlt : j < A.rows.length
            · have k1 : (j : Int) < (A.rows.length : Int) := by omega
              have hlt2 : j < B.rows.length := by have := h3.out; omega
              have HTS : Hid (A.rows.take (j + 1) = A.rows.take j ++ [A.rows[j]] ∧ B.rows.take (j + 1) = B.rows.take j ++ [B.rows[j]]) := hid ⟨List.take_succ_eq_append_getElem hlt, List.take_succ_eq_append_getElem hlt2⟩
              have HNE : Hid (A.rows[j] ≠ B.rows[j] → A ≠ B) := hid (fun q e => q (by subst e; rfl))
              obtain ⟨pb, po, epb, hc⟩ := rowAt (g := cLN) (fun _ => rfl) (HA.out.hr.kept hb.out) (i := j) (x := A.rows[j]) (by simp [hlt])
              obtain ⟨qb, qo, eqb, hd⟩ := rowAt (g := cLN) (fun _ => rfl) (HB.out.hr.kept hb.out) (i := j) (x := B.rows[j]) (by simp [hlt2])
              subst epb eqb
              have c0 := hc 0 _ rfl
              have d0 := hd 0 _ rfl
              have c1 := hc 1 _ rfl
              have d1 := hd 1 _ rfl
              clear hc hd
              simp only [Nat.add_zero] at c0 d0
              have hpb : pb < wr.heap.size := World.block_lt_of_cell? _ _ c0
              have hqb : qb < wr.heap.size := World.block_lt_of_cell? _ _ d0
              generalize A.rows[j] = x at *
              generalize B.rows[j] = y at *
              have hgd := gdLN
              have heq := fun W => eqLN x y W
              cases hq : lnB x y with
              | false =>
                rw [hq] at heq
                go_wp2
                go_quiet (fail)
                go_wp2
                go_ret
                exact EqA.no (HNE.out (fun e => by rw [(lnB_iff x y).2 e] at hq; cases hq)) (by have := hb.out; first | exact this | exact bl_drewN this _ | exact blBy)
              | true =>
                rw [hq] at heq
                have exy := hid ((lnB_iff x y).1 hq)
                go_wp2
                go_quiet (fail)
                go_wp2
                exact ⟨⟨j + 1, by simp, by omega, hid (by rw [HTS.out.1, HTS.out.2, HT.out, exy.out]), hid (Ba.out.kept (below_drewN _ _)), hid (Bb.out.kept (below_drewN _ _)), hid (bl_drewN hb.out _)⟩, by simp [numAt]; omega⟩
            · have k1 : ¬ (j : Int) < (A.rows.length : Int) := by omega
              have Erows : Hid (A.rows = B.rows) := hid (by have := HT.out; rwa [List.take_of_length_le (by omega), List.take_of_length_le (by have := h3.out; omega)] at this)
              go_wp2
              go_ret
              exact EqA.yes (bk_eq Edec.out Eenc.out Erows.out) hb.out
/-- A program, in memory. -/
structure PgR (w : World) (v : Value) (bs : List BV) : Prop where
  row : RowS w AnyZ 3 v bs.length (bs.flatMap cBV)
  el : ∀ x ∈ bs, BkR w x.k x.d x.e x.r
theorem PgR.kept {w w' : World} {v : Value} {bs : List BV} (h : PgR w v bs) (g : Below w.heap.size w w') : PgR w' v bs := ⟨h.row.kept g, fun x hx => (h.el x hx).kept g⟩
theorem LwO.prog {w : World} {base : Nat} {v : Value} {xs : List BV} (h : LwO w base v xs) : PgR w v xs := ⟨own_row h.row (fun _ _ => trivial), fun x hx => (h.el x hx).row⟩
theorem i64_and7 (n : Int) : bits .and .i64 n 7 = n % 8 := by
  have h7 : (BitVec.ofInt 64 7).toNat = 2 ^ 3 - 1 := by decide
  have key : (BitVec.ofInt 64 n &&& BitVec.ofInt 64 7).toNat = (n % ((2 ^ 64 : Nat) : Int)).toNat % 2 ^ 3 := by
    rw [BitVec.toNat_and, BitVec.toNat_ofInt, h7, Nat.and_two_pow_sub_one_eq_mod]
  show IntKind.i64.wrap ((BitVec.ofInt 64 n &&& BitVec.ofInt 64 7).toNat : Nat) = n % 8
  rw [key, IntKind.wrap_i64]
  omega
theorem stepL (w : World) (op : Int) (ns : List Int) (hl : ns.length ≤ 4) (b : Nat) (hB : Blk w b 3 (ints ns)) : Calls Tryd.prog 64 #[.int .i64 op, .slice (some ⟨b, 0, none⟩) ns.length ns.length] w fun e w' => e = .returned (vIN (insV op ns)) ∧ Below w.heap.size w w' := stepT w op ns hl _ _ (ints_row ns hl hB)
theorem pg_at {w : World} {ba : Option Addr} {n bc : Nat} {bs : List BV} (h : PgR w (.slice ba n bc) bs) {k : Nat} (hk : k < bs.length) : ∃ b o da dc ea ec ra rc, ba = some ⟨b, o, none⟩ ∧ b < w.heap.size ∧ w.cell? ⟨b, o + k * 3, none⟩ = some (.slice da bs[k].k.dec.length dc) ∧ w.cell? ⟨b, o + k * 3 + 1, none⟩ = some (.slice ea bs[k].k.enc.length ec) ∧ w.cell? ⟨b, o + k * 3 + 2, none⟩ = some (.slice ra bs[k].k.rows.length rc) ∧ BkR w bs[k].k (.slice da bs[k].k.dec.length dc) (.slice ea bs[k].k.enc.length ec) (.slice ra bs[k].k.rows.length rc) := by
  obtain ⟨b, o, e, hc⟩ := rowAt (g := cBV) (fun _ => rfl) h.row (i := k) (x := bs[k]) (by simp [hk])
  have hb := h.el _ (List.getElem_mem hk)
  obtain ⟨da, dc, e1, -⟩ := rowS_sl hb.hd
  obtain ⟨ea, ec, e2, -⟩ := rowS_sl hb.he
  obtain ⟨ra, rc, e3, -⟩ := rowS_sl hb.hr
  have c0 := hc 0 _ rfl
  have c1 := hc 1 _ rfl
  have c2 := hc 2 _ rfl
  rw [e1] at c0
  rw [e2] at c1
  rw [e3] at c2
  rw [e1, e2, e3] at hb
  exact ⟨b, o, da, dc, ea, ec, ra, rc, e, World.block_lt_of_cell? _ _ c0, c0, c1, c2, hb⟩
def noS (x : BV) : Bool := decide (x.k.dec.length = 0) && decide (x.k.enc.length = 0)
def enI (bs : List BV) (k : Int) : Bool := decide (0 ≤ k) && (bs[k.toNat]?.map noS == some true)
def msI (bs : List BV) (k : Int) : Bool := decide (0 ≤ k) && (bs[k.toNat]?.map noS == some false)
def fdI (a : Int) : Bool := decide (1 ≤ a ∧ a ≤ 536870911)
def tgI (t : Int) : Bool := decide (8 ≤ t ∧ t / 8 ≤ 536870911 ∧ (t % 8 = 0 ∨ t % 8 = 1 ∨ t % 8 = 2 ∨ t % 8 = 5))
def sgI (k : Int) : Bool := decide (1 ≤ k ∧ k ≤ 16)
def kdI (k : Int) : Bool := decide (1 ≤ k ∧ k ≤ 17)
def bkI (bs : List BV) (kind k : Int) : Bool := if kind = 16 then enI bs k else if kind = 17 then msI bs k else decide (k = 0)
theorem enI_lo {bs : List BV} {k : Int} (h : k < 0) : enI bs k = false := by unfold enI; rw [decide_eq_false (by omega)]; rfl
theorem msI_lo {bs : List BV} {k : Int} (h : k < 0) : msI bs k = false := by unfold msI; rw [decide_eq_false (by omega)]; rfl
theorem enI_hi {bs : List BV} {k : Int} (h : (bs.length : Int) ≤ k) : enI bs k = false := by unfold enI; rw [List.getElem?_eq_none (by omega)]; simp
theorem msI_hi {bs : List BV} {k : Int} (h : (bs.length : Int) ≤ k) : msI bs k = false := by unfold msI; rw [List.getElem?_eq_none (by omega)]; simp
theorem enI_at {bs : List BV} {k : Nat} (h : k < bs.length) : enI bs (k : Int) = noS bs[k] := by
  unfold enI
  rw [decide_eq_true (by omega), Int.toNat_natCast, List.getElem?_eq_getElem h]
  cases e : noS bs[k] <;> simp [e]
theorem msI_at {bs : List BV} {k : Nat} (h : k < bs.length) : msI bs (k : Int) = !noS bs[k] := by
  unfold msI
  rw [decide_eq_true (by omega), Int.toNat_natCast, List.getElem?_eq_getElem h]
  cases e : noS bs[k] <;> simp [e]
def BoA (w : World) (r : Bool) (e : Ending) (w' : World) : Prop := e = .returned (.bool r) ∧ Below w.heap.size w w'
theorem cfNone (args : Array Value) (W : World) : (callFunc 47 args).run Tryd.prog W = .ok (.enter 47 args) W := cf_enter Tryd.func47 (by kernel_rfl) (by kernel_rfl) args W
theorem cfTarget (args : Array Value) (W : World) : (callFunc 53 args).run Tryd.prog W = .ok (.enter 53 args) W := cf_enter Tryd.func53 (by kernel_rfl) (by kernel_rfl) args W
theorem cfValid (args : Array Value) (W : World) : (callFunc 17 args).run Tryd.prog W = .ok (.enter 17 args) W := cf_enter Tryd.func17 (by kernel_rfl) (by kernel_rfl) args W
theorem isFieldP (w : World) (k : Int) : Calls Tryd.prog 67 #[.int .i64 k] w fun e w' => e = .returned (.bool (fdI k)) ∧ w' = w := by
  by_cases h1 : 1 ≤ k
  · have r1 : (1 ≤ k) = True := eq_true h1
    by_cases h2 : k ≤ 536870911
    · have r2 : (k ≤ 536870911) = True := eq_true h2
      have e : fdI k = true := decide_eq_true ⟨h1, h2⟩
      rw [e]
      clear h1 h2 e
      go_enter Tryd.func67, Tryd.ntmps67
      go_wp2
      go_ret
      exact ⟨rfl, rfl⟩
    · have r2 : (k ≤ 536870911) = False := eq_false h2
      have e : fdI k = false := decide_eq_false (fun h => h2 h.2)
      rw [e]
      clear h1 h2 e
      go_enter Tryd.func67, Tryd.ntmps67
      go_wp2
      go_ret
      exact ⟨rfl, rfl⟩
  · have r1 : (1 ≤ k) = False := eq_false h1
    have e : fdI k = false := decide_eq_false (fun h => h1 h.1)
    rw [e]
    clear h1 e
    go_enter Tryd.func67, Tryd.ntmps67
    go_wp2
    go_ret
    exact ⟨rfl, rfl⟩
theorem isSingleP (w : World) (k : Int) : Calls Tryd.prog 65 #[.int .i64 k] w fun e w' => e = .returned (.bool (sgI k)) ∧ w' = w := by
  by_cases h1 : 1 ≤ k
  · have r1 : (1 ≤ k) = True := eq_true h1
    by_cases h2 : k ≤ 16
    · have r2 : (k ≤ 16) = True := eq_true h2
      have e : sgI k = true := decide_eq_true ⟨h1, h2⟩
      rw [e]
      clear h1 h2 e
      go_enter Tryd.func65, Tryd.ntmps65
      go_wp2
      go_ret
      exact ⟨rfl, rfl⟩
    · have r2 : (k ≤ 16) = False := eq_false h2
      have e : sgI k = false := decide_eq_false (fun h => h2 h.2)
      rw [e]
      clear h1 h2 e
      go_enter Tryd.func65, Tryd.ntmps65
      go_wp2
      go_ret
      exact ⟨rfl, rfl⟩
  · have r1 : (1 ≤ k) = False := eq_false h1
    have e : sgI k = false := decide_eq_false (fun h => h1 h.1)
    rw [e]
    clear h1 e
    go_enter Tryd.func65, Tryd.ntmps65
    go_wp2
    go_ret
    exact ⟨rfl, rfl⟩
theorem hasStepsP (w : World) (da ea ra : Option Addr) (n1 dc n2 ec n3 rc : Nat) (h1 : n1 ≤ 140737488355328) (h2 : n2 ≤ 140737488355328) : Calls Tryd.prog 31 #[.agg #[.slice da n1 dc, .slice ea n2 ec, .slice ra n3 rc]] w fun e w' => e = .returned (.bool (decide (0 < n1 + n2))) ∧ Below w.heap.size w w' := by
  have r4 : (n1 : Int) + (n2 : Int) ≤ 9223372036854775807 := by omega
  have r5 : (n1 : Int) ≤ 140737488355328 := by omega
  have r6 : (n2 : Int) ≤ 140737488355328 := by omega
  go_enter Tryd.func31, Tryd.ntmps31
  go_wp2
  go_ret
  exact ⟨ret_bool (by first | rfl | (by_cases h : 0 < n1 + n2 <;> simp [h] <;> omega)), by exact blBy⟩
theorem isEnumP (w : World) (bs : List BV) (ba : Option Addr) (bc : Nat) (h : PgR w (.slice ba bs.length bc) bs) (hz : ∀ x ∈ bs, x.k.dec.length ≤ 140737488355328 ∧ x.k.enc.length ≤ 140737488355328) (k : Int) : Calls Tryd.prog 66 #[.slice ba bs.length bc, .int .i64 k] w (BoA w (enI bs k)) := by
  obtain ⟨_, _, e, hn⟩ := rowS_sl h.row
  clear e
  have h63 : (bs.length : Int) ≤ 9223372036854775807 := by omega
  by_cases h0 : k < 0
  · rw [enI_lo h0]
    have r1 : (0 ≤ k) = False := eq_false (by omega)
    clear h h0 hz
    go_enter Tryd.func66, Tryd.ntmps66
    go_wp2
    go_ret
    exact ⟨rfl, by first | exact Below.refl _ _ | exact blBy⟩
  by_cases h1 : (bs.length : Int) ≤ k
  · rw [enI_hi h1]
    have r1 : (0 ≤ k) = True := eq_true (by omega)
    have r2 : ¬ k < (bs.length : Int) := by omega
    clear h h0 h1 hz
    go_enter Tryd.func66, Tryd.ntmps66
    go_wp2
    go_ret
    exact ⟨rfl, by first | exact Below.refl _ _ | exact blBy⟩
  obtain ⟨j, rfl⟩ : ∃ j : Nat, k = (j : Int) := ⟨k.toNat, by omega⟩
  have hj : j < bs.length := by omega
  rw [enI_at hj]
  obtain ⟨b, o, da, dc, ea, ec, ra, rc, rfl, hb, c0, c1, c2, -⟩ := pg_at h hj
  have hzz := hz _ (List.getElem_mem hj)
  have r1 : (0 : Int) ≤ (j : Int) := by omega
  have r2 : (j : Int) < (bs.length : Int) := by omega
  have HN : Hid (noS bs[j] = (decide (bs[j].k.dec.length = 0) && decide (bs[j].k.enc.length = 0))) := hid rfl
  generalize noS bs[j] = ns at *
  generalize bs[j].k.dec.length = n1 at *
  generalize bs[j].k.enc.length = n2 at *
  generalize bs[j].k.rows.length = n3 at *
  clear h h0 h1 hz
  by_cases hs : 0 < n1 + n2
  · obtain rfl : ns = false := by rw [HN.out]; simp; omega
    have r3 : ((0 : Int) < (n1 : Int) + (n2 : Int)) = True := eq_true (by omega)
    have r4 : (n1 : Int) + (n2 : Int) ≤ 9223372036854775807 := by omega
    have r5 : (n1 : Int) ≤ 140737488355328 := by omega
    have r6 : (n2 : Int) ≤ 140737488355328 := by omega
    have r7 : wrap64 ((n1 : Int) + (n2 : Int)) = (n1 : Int) + (n2 : Int) := by unfold wrap64; omega
    have HHS := hid (fun W => hasStepsP W da ea ra n1 dc n2 ec n3 rc hzz.1 hzz.2)
    rw [decide_eq_true hs] at HHS
    clear HN hs hzz
    go_enter Tryd.func66, Tryd.ntmps66
    go_wp2
    first
      | (go_ret; exact ⟨rfl, by first | exact Below.refl _ _ | exact blBy⟩)
      | (go_ret; exact ⟨ret_bool (by first | rfl | exact decide_eq_true r3 | (simp; omega)), by first | exact Below.refl _ _ | exact blBy⟩)
  · have z1 : n1 = 0 := by omega
    have z2 : n2 = 0 := by omega
    subst z1 z2
    obtain rfl : ns = true := HN.out
    have HHS := hid (fun W => hasStepsP W da ea ra 0 dc 0 ec n3 rc (by omega) (by omega))
    rw [decide_eq_false hs] at HHS
    clear HN hs hzz
    go_enter Tryd.func66, Tryd.ntmps66
    go_wp2
    go_ret
    exact ⟨ret_bool (by first | rfl | simp), by first | exact Below.refl _ _ | exact blBy⟩
theorem isMessageP (w : World) (bs : List BV) (ba : Option Addr) (bc : Nat) (h : PgR w (.slice ba bs.length bc) bs) (hz : ∀ x ∈ bs, x.k.dec.length ≤ 140737488355328 ∧ x.k.enc.length ≤ 140737488355328) (k : Int) : Calls Tryd.prog 68 #[.slice ba bs.length bc, .int .i64 k] w (BoA w (msI bs k)) := by
  obtain ⟨_, _, e, hn⟩ := rowS_sl h.row
  clear e
  have h63 : (bs.length : Int) ≤ 9223372036854775807 := by omega
  by_cases h0 : k < 0
  · rw [msI_lo h0]
    have r1 : (0 ≤ k) = False := eq_false (by omega)
    clear h h0 hz
    go_enter Tryd.func68, Tryd.ntmps68
    go_wp2
    go_ret
    exact ⟨rfl, by first | exact Below.refl _ _ | exact blBy⟩
  by_cases h1 : (bs.length : Int) ≤ k
  · rw [msI_hi h1]
    have r1 : (0 ≤ k) = True := eq_true (by omega)
    have r2 : ¬ k < (bs.length : Int) := by omega
    clear h h0 h1 hz
    go_enter Tryd.func68, Tryd.ntmps68
    go_wp2
    go_ret
    exact ⟨rfl, by first | exact Below.refl _ _ | exact blBy⟩
  obtain ⟨j, rfl⟩ : ∃ j : Nat, k = (j : Int) := ⟨k.toNat, by omega⟩
  have hj : j < bs.length := by omega
  rw [msI_at hj]
  obtain ⟨b, o, da, dc, ea, ec, ra, rc, rfl, hb, c0, c1, c2, -⟩ := pg_at h hj
  have hzz := hz _ (List.getElem_mem hj)
  have r1 : (0 : Int) ≤ (j : Int) := by omega
  have r2 : (j : Int) < (bs.length : Int) := by omega
  have HN : Hid (noS bs[j] = (decide (bs[j].k.dec.length = 0) && decide (bs[j].k.enc.length = 0))) := hid rfl
  generalize noS bs[j] = ns at *
  generalize bs[j].k.dec.length = n1 at *
  generalize bs[j].k.enc.length = n2 at *
  generalize bs[j].k.rows.length = n3 at *
  clear h h0 h1 hz
  by_cases hs : 0 < n1 + n2
  · obtain rfl : ns = false := by rw [HN.out]; simp; omega
    have r3 : ((0 : Int) < (n1 : Int) + (n2 : Int)) = True := eq_true (by omega)
    have r4 : (n1 : Int) + (n2 : Int) ≤ 9223372036854775807 := by omega
    have r5 : (n1 : Int) ≤ 140737488355328 := by omega
    have r6 : (n2 : Int) ≤ 140737488355328 := by omega
    have r7 : wrap64 ((n1 : Int) + (n2 : Int)) = (n1 : Int) + (n2 : Int) := by unfold wrap64; omega
    have HHS := hid (fun W => hasStepsP W da ea ra n1 dc n2 ec n3 rc hzz.1 hzz.2)
    rw [decide_eq_true hs] at HHS
    clear HN hs hzz
    go_enter Tryd.func68, Tryd.ntmps68
    go_wp2
    first
      | (go_ret; exact ⟨rfl, by first | exact Below.refl _ _ | exact blBy⟩)
      | (go_ret; exact ⟨ret_bool (by first | rfl | exact decide_eq_true r3 | (simp; omega)), by first | exact Below.refl _ _ | exact blBy⟩)
  · have z1 : n1 = 0 := by omega
    have z2 : n2 = 0 := by omega
    subst z1 z2
    obtain rfl : ns = true := HN.out
    have HHS := hid (fun W => hasStepsP W da ea ra 0 dc 0 ec n3 rc (by omega) (by omega))
    rw [decide_eq_false hs] at HHS
    clear HN hs hzz
    go_enter Tryd.func68, Tryd.ntmps68
    go_wp2
    go_ret
    exact ⟨ret_bool (by first | rfl | simp), by first | exact Below.refl _ _ | exact blBy⟩
end Go.Proofs.YtpndejibjiojbaaDoor
