/-
  A row copied.
  Steps of programs, and the steps that a type is lowered to.
  A step of its numbers.
  Steps laid one behind the other.
  A step whose place is known later.
  A Case and what follows it.
  What follows a Case.
  What follows a Case, and what is written.
  What is written of a field.
  A message's steps: Enc, Dec.
  A message's steps: Enc.
-/
import Derived.Test.YtliohglpbmpbhaaCTA
import Derived.Lib.AppendZerosOnto
import Derived.Lib.AppendZeros
import Derived.Laws.AppendOwnNone
import Derived.Laws.CopyRow
import Derived.Laws.CopyOwn
import Derived.Shelf.RegionOpenPlain
import Derived.Deep.RegionHeld3
import Derived.Laws.BitsLemmas
namespace Go.Proofs.Ytliohglpbmpbhaa
open Go.RowKit
set_option maxRecDepth 1000000
set_option linter.unusedVariables false
set_option linter.unusedSimpArgs false
set_option maxHeartbeats 1000000
theorem appRow (t ts size bytes : Nat) (z : Value) (hts : Try.prog.underlying ts = some (.slice t)) (hinfo : (Try.prog.info? t).map (fun i => (i.zero, i.size, i.bytes)) = some (some z, size, bytes)) (hzs : z.cells.size = size) (h0 : 0 < size) (hby : bytes ≤ 400) (base : Nat) (v : Value) (n : Nat) (fl : List Value) (m : Nat) (gl : List Value) (a : Option Addr) (c : Nat) (w : World) (h : w.ownsRow base t size v n fl) (hy : RowS w AnyZ size (.slice a m c) m gl) (hgl : gl.length = m * size) (h1 : ∀ u ∈ gl, u.oneCell' = true) (hb : base ≤ w.heap.size) (hn : n + m ≤ 4000000) :
    ∃ a' c' w', Hid ((Builtin.append_ #[ts, ts] ts #[v, .slice a m c]).run Try.prog w = .ok (.slice a' (n + m) c') w') ∧ Hid (w'.ownsRow base t size (.slice a' (n + m) c') (n + m) (fl ++ gl)) ∧ Hid (Grow w w' v (.slice a' (n + m) c')) := by
  obtain ⟨i0, hi, hz0, hz1, hz2⟩ := info_parts hinfo
  obtain ⟨a2, c2, e, hv⟩ := hy
  cases e
  have hbig : (n + m) * bytes ≤ 140737488355328 := Nat.le_trans (Nat.mul_le_mul hn hby) (by decide)
  have key : ∀ (ad : Addr), a = some ad → (∀ j u, gl[j]? = some u → w.cell? (ad.add j) = some u) → ∃ a' c' w', Hid ((Builtin.append_ #[ts, ts] ts #[v, .slice a m c]).run Try.prog w = .ok (.slice a' (n + m) c') w') ∧ Hid (w'.ownsRow base t size (.slice a' (n + m) c') (n + m) (fl ++ gl)) ∧ Hid (Grow w w' v (.slice a' (n + m) c')) := by
    intro ad ea hc
    subst ea
    obtain ⟨v', w', r1, r2, r3⟩ := run_append_mine (P := Try.prog) w base ts ts t i0 _ size bytes hts hi hz0 hz1 hz2 hzs h0 v n fl h ad m c gl hgl hc h1 (by unfold maxLen; omega) hbig hb
    obtain ⟨a', c', rfl⟩ := own_shape r2
    exact ⟨a', c', w', hid r1, hid r2, hid r3⟩
  rcases hv.cells with ⟨hl0, hn0⟩ | ⟨b', off, rfl, _, hc⟩
  · subst hl0
    have hg0 : gl = [] := List.eq_nil_of_length_eq_zero (by omega)
    subst hg0
    cases a with
    | none =>
      have hc0 := hn0 rfl
      subst hc0
      obtain ⟨va, vc, rfl⟩ := own_shape h
      refine ⟨va, vc, w, hid ?_, hid ?_, hid (Grow.refl _ _)⟩
      · exact run_append_owned_none (P := Try.prog) (w := w) base ts ts t i0 size hts hi _ n fl h
      · rw [List.append_nil]
        exact h
    | some ad => exact key ad rfl (fun j u hu => by simp at hu)
  · refine key _ rfl (fun j u hu => ?_)
    have hadd : (⟨b', off, none⟩ : Addr).add j = ⟨b', off + j, none⟩ := by unfold Addr.add; split <;> simp_all
    rw [hadd]
    exact hc j u hu
theorem flatN {α : Type} {g : α → List Value} {K : Nat} (hK : ∀ x, (g x).length = K) (l : List α) : (l.flatMap g).length = l.length * K := by
  induction l with
  | nil => simp
  | cons x l ih => rw [List.flatMap_cons, List.length_append, hK, ih, List.length_cons, Nat.add_mul]; omega
theorem copyApp (t ts size bytes : Nat) (z : Value) (hts : Try.prog.underlying ts = some (.slice t)) (hinfo : (Try.prog.info? t).map (fun i => (i.zero, i.size, i.bytes)) = some (some z, size, bytes)) (hzs : z.cells.size = size) (h0 : 0 < size) (hby : bytes ≤ 400) (V : World) (n : Nat) (gl : List Value) (a : Option Addr) (c : Nat) (hy : RowS V AnyZ size (.slice a n c) n gl) (hgl : gl.length = n * size) (h1 : ∀ u ∈ gl, u.oneCell' = true) (hn : n ≤ 1048576) :
    ∃ a1 c1 x1, Hid ((Builtin.append_ #[ts, ts] ts #[.slice (some ⟨V.heap.size, 0, none⟩) 0 0, .slice a n c]).run Try.prog (V.alloc (.cells #[] t)) = .ok (.slice a1 n c1) x1) ∧ Hid (x1.ownsRow V.heap.size t size (.slice a1 n c1) n gl) ∧ Hid (Below V.heap.size V x1) := by
  have o : (V.alloc (.cells #[] t)).ownsRow V.heap.size t size (.slice (some ⟨V.heap.size, 0, none⟩) 0 0) 0 [] := World.ownsRow_lit (base := V.heap.size) (e := t) (size := size) V #[] 0 (Nat.le_refl _) (Nat.zero_le _) (by simp)
  obtain ⟨a1, c1, x1, r1, r2, r3⟩ := appRow t ts size bytes z hts hinfo hzs h0 hby V.heap.size _ 0 [] n gl a c _ o (hy.kept (below_alloc _)) hgl h1 (by simp) (by omega)
  rw [Nat.zero_add] at r1 r2 r3
  exact ⟨a1, c1, x1, r1, r2, hid ((below_alloc _).trans (r3.out.below (by simp) (fun k hk => (own_type o hk).1)))⟩
structure IN where
  op : Int
  a : Int
  b : Int
  c : Int
  d : Int
structure LN where
  tag : Int
  pl : Int
def cIN (x : IN) : List Value := [.int .i64 x.op, .int .i64 x.a, .int .i64 x.b, .int .i64 x.c, .int .i64 x.d]
def cLN (x : LN) : List Value := [.int .i64 x.tag, .int .i64 x.pl]
def vIN (x : IN) : Value := .agg #[.int .i64 x.op, .int .i64 x.a, .int .i64 x.b, .int .i64 x.c, .int .i64 x.d]
/-- A step with these numbers. -/
def insV (op : Int) (ns : List Int) : IN := ⟨op, ns[0]?.getD 0, ns[1]?.getD 0, ns[2]?.getD 0, ns[3]?.getD 0⟩
def tagV (n k : Int) : Int := n * 8 + k
/-- copy of n structs of s cells into a row of one's own, from wherever they lie. -/
theorem run_copy_rowS (P : Program) (w : World) (dT sT ty elem : TypeId) (g o dLen dCap : Nat) (a : Addr) (sLen sCap : Nat) (cur : Array Value) (t : TypeId) (cs : List Value) (s n : Nat)
    (hu : P.underlying dT = some (.slice elem)) (hs : (P.info? elem).map (·.size) = some s)
    (hg : w.heap[g]? = some (.cells cur t (0, 0))) (hn : n = Nat.min sLen dLen) (hcl : cs.length = n * s)
    (hsrc : ∀ j v, cs[j]? = some v → w.cell? (a.add j) = some v) (hfit : o + cs.length ≤ cur.size) (h1 : ∀ v ∈ cs, v.oneCell' = true) :
    (Builtin.copy_ #[dT, sT] ty #[.slice (some ⟨g, o, none⟩) dLen dCap, .slice (some a) sLen sCap]).run P w =
      .ok (goInt n) (w.setRow g (cur.toList.take o ++ cs ++ cur.toList.drop (o + cs.length)).toArray) := by
  have hl := run_loadCells_list (P := P) w a cs hsrc
  have hst := run_storeCells_at P g o t cs 0 cur w hg (by simpa using hfit) h1
  cases hq : P.info? elem with
  | none => simp [hq] at hs
  | some i =>
    have hi : i.size = s := by simpa [hq] using hs
    rw [hcl] at hl
    simp [Builtin.copy_, run_underlying hu, Builtin.lenOf, Builtin.firstCells, sizeOf, typeInfo, hq, hi, ← hn, hl, hst]
theorem setRow_new (w : World) (cs cs' : Array Value) (t : TypeId) : (w.alloc (.cells cs t)).setRow w.heap.size cs' = w.alloc (.cells cs' t) := by
  simp only [World.setRow, World.alloc]
  congr 1
  apply Array.ext
  · simp
  · intro i h1 h2
    simp at h1 h2
    rw [Array.getElem_modify]
    by_cases hi : i = w.heap.size
    · subst hi; simp
    · rw [if_neg (fun e => hi e.symm), Array.getElem_push_lt (by omega), Array.getElem_push_lt (by omega)]
def all4 (ns : List Int) : Array Value := #[.int .i64 (ns[0]?.getD 0), .int .i64 (ns[1]?.getD 0), .int .i64 (ns[2]?.getD 0), .int .i64 (ns[3]?.getD 0)]
theorem all4_eq : ∀ (ns : List Int), ns.length ≤ 4 → (ns.flatMap cI64 ++ ([.int .i64 0, .int .i64 0, .int .i64 0, .int .i64 0] : List Value).drop (ns.flatMap cI64).length).toArray = all4 ns
  | [], _ => rfl
  | [_], _ => rfl
  | [_, _], _ => rfl
  | [_, _, _], _ => rfl
  | [_, _, _, _], _ => rfl
  | _ :: _ :: _ :: _ :: _ :: _, h => by simp at h
theorem szInt : (Try.prog.info? 3).map (·.size) = some 1 := by kernel_rfl
theorem cI_one (ns : List Int) : ∀ u ∈ ns.flatMap cI64, u.oneCell' = true := by
  intro u hu
  simp [cI64] at hu
  obtain ⟨_, _, rfl⟩ := hu
  rfl
theorem copy4 (w : World) (ns : List Int) (hl : ns.length ≤ 4) (na : Option Addr) (nc : Nat) (h : RowS w AnyZ 1 (.slice na ns.length nc) ns.length (ns.flatMap cI64)) (A : Obj) :
    (Builtin.copy_ #[88, 88] 3 #[.slice (some ⟨w.heap.size + 1, 0, none⟩) 4 4, .slice na ns.length nc]).run Try.prog ((w.alloc A).alloc (.cells #[.int .i64 0, .int .i64 0, .int .i64 0, .int .i64 0] 109)) = .ok (goInt ns.length) ((w.alloc A).alloc (.cells (all4 ns) 109)) := by
  have h' := (h.kept (below_alloc A)).kept (below_alloc (.cells #[.int .i64 0, .int .i64 0, .int .i64 0, .int .i64 0] 109))
  obtain ⟨a, c, e, hv⟩ := h'
  cases e
  have hN : (w.alloc A).heap.size = w.heap.size + 1 := by simp
  rw [← hN]
  have main : ∀ (a0 : Addr), (∀ j u, (ns.flatMap cI64)[j]? = some u → ((w.alloc A).alloc (.cells #[.int .i64 0, .int .i64 0, .int .i64 0, .int .i64 0] 109)).cell? (a0.add j) = some u) → (Builtin.copy_ #[88, 88] 3 #[.slice (some ⟨(w.alloc A).heap.size, 0, none⟩) 4 4, .slice (some a0) ns.length nc]).run Try.prog ((w.alloc A).alloc (.cells #[.int .i64 0, .int .i64 0, .int .i64 0, .int .i64 0] 109)) = .ok (goInt ns.length) ((w.alloc A).alloc (.cells (all4 ns) 109)) := by
    intro a0 hc
    have hlen : (ns.flatMap cI64).length = ns.length * 1 := flatM_len (g := cI64) (fun _ => rfl) ns
    rw [run_copy_rowS Try.prog _ 88 88 3 3 (w.alloc A).heap.size 0 4 4 a0 ns.length nc #[.int .i64 0, .int .i64 0, .int .i64 0, .int .i64 0] 109 (ns.flatMap cI64) 1 ns.length Try.underlying88 szInt (Blk.new _ _ _) (by simp only [Nat.min_def]; split <;> omega) hlen hc (by simp [hlen]; omega) (cI_one ns)]
    rw [setRow_new]
    simp only [List.take_zero, List.nil_append, Nat.zero_add]
    rw [all4_eq ns hl]
  rcases hv.cells with ⟨h0, hn⟩ | ⟨b, off, rfl, _, hc⟩
  · cases na with
    | some a0 =>
      have : ns = [] := List.eq_nil_of_length_eq_zero h0
      subst this
      exact main a0 (by simp)
    | none =>
      have : ns = [] := List.eq_nil_of_length_eq_zero h0
      subst this
      obtain ⟨i0, hi0, hz0⟩ : ∃ i, Try.prog.info? 3 = some i ∧ i.size = 1 := by
        have := szInt
        cases hq : Try.prog.info? 3 with
        | none => rw [hq] at this; cases this
        | some i => rw [hq] at this; exact ⟨i, rfl, by simpa using this⟩
      simp [Builtin.copy_, run_underlying Try.underlying88, Builtin.lenOf, Builtin.firstCells, sizeOf, typeInfo, hi0, hz0, all4, storeCells]
  · refine main ⟨b, off, none⟩ (fun j u hu => ?_)
    have hadd : (⟨b, off, none⟩ : Addr).add j = ⟨b, off + j, none⟩ := by unfold Addr.add; split <;> simp_all
    rw [hadd]
    exact hc j u hu
theorem stepT (w : World) (op : Int) (ns : List Int) (hl : ns.length ≤ 4) (na : Option Addr) (nc : Nat) (h : RowS w AnyZ 1 (.slice na ns.length nc) ns.length (ns.flatMap cI64)) : Calls Try.prog 84 #[.int .i64 op, .slice na ns.length nc] w fun e w' => e = .returned (vIN (insV op ns)) ∧ Below w.heap.size w w' := by
  have hcp := copy4 w ns hl na nc h (.cells #[.int .i64 0, .int .i64 0, .int .i64 0, .int .i64 0, .int .i64 0] 42)
  have HX : Hid (vIN (insV op ns) = .agg #[.int .i64 op, .int .i64 (ns[0]?.getD 0), .int .i64 (ns[1]?.getD 0), .int .i64 (ns[2]?.getD 0), .int .i64 (ns[3]?.getD 0)]) := hid rfl
  unfold all4 at hcp
  clear h hl
  generalize ns[0]?.getD 0 = n0 at *
  generalize ns[1]?.getD 0 = n1 at *
  generalize ns[2]?.getD 0 = n2 at *
  generalize ns[3]?.getD 0 = n3 at *
  go_enter Try.func84, Try.ntmps84
  go_wp2
  exact bodyPost_ret (v := .agg #[.int .i64 op, .int .i64 n0, .int .i64 n1, .int .i64 n2, .int .i64 n3]) (by simp [results, Try.results84, go_sem]) rfl ⟨by rw [HX.out], by exact blBy⟩
theorem step_append_ran {P : Program} {ops : Array Oper} {o : Oper} {a : Act} {w : World} {K : Act → World → Prop} {Q : Exit → Act → World → Prop} {E : Prop}
    (hg : o.guard = none) (s x : Operand) (t ty : TypeId) (hop : o.op = Op.call { callee := Callee.builtin Builtin.append, args := #[s, x], argTypes := #[t, t] }) (hty : o.type = ty)
    (v xv v' : Value) (w' : World) (hs : a.eval s = v) (hx : a.eval x = xv) (hr : (Builtin.append_ #[t, t] ty #[v, xv]).run P w = .ok v' w') (hK : K (a.put o.dst v') w') :
    if Region.wanted o (yielded ops a.tmps) = true then Oper.wp P o a w K Q else E := by
  have hw : Region.wanted o (yielded ops a.tmps) = true := by simp [Region.wanted, hg]
  rw [if_pos hw]
  subst hty
  unfold Oper.wp
  simp [execOp, hop, resolve, invoke, builtin, hs, hx, hr, Result.andThen]
  exact hK
theorem Try.infoPI : (Try.prog.info? 42).map (fun i => (i.zero, i.size, i.bytes)) = some (some (.agg #[.int .i64 0, .int .i64 0, .int .i64 0, .int .i64 0, .int .i64 0]), 5, 40) := by kernel_rfl
/-- One more. -/
theorem appendPI (base : Nat) (v : Value) (l : List IN) (y : IN) (w : World) (h : w.ownsRow base 42 5 v l.length (l.flatMap cIN)) (hb : base ≤ w.heap.size) (hn : l.length ≤ 4000000) :
    ∃ a c w', Hid ((Builtin.append_ #[22, 22] 22 #[v, .slice (some ⟨w.heap.size, 0, none⟩) 1 1]).run Try.prog (w.alloc (.cells #[.int .i64 y.op, .int .i64 y.a, .int .i64 y.b, .int .i64 y.c, .int .i64 y.d] 42)) = .ok (.slice a (l.length + 1) c) w') ∧ Hid (w'.ownsRow base 42 5 (.slice a (l.length + 1) c) (l ++ [y]).length ((l ++ [y]).flatMap cIN)) ∧ Hid (Grow w w' v (.slice a (l.length + 1) c)) := by
  obtain ⟨v', w', h1, h2, h3⟩ := append_st 42 22 5 40 (.agg #[.int .i64 0, .int .i64 0, .int .i64 0, .int .i64 0, .int .i64 0]) Try.underlying22 Try.infoPI rfl (by decide) (by decide) base v l.length (l.flatMap cIN) w #[.int .i64 y.op, .int .i64 y.a, .int .i64 y.b, .int .i64 y.c, .int .i64 y.d] rfl (fun u hu => by simp at hu; rcases hu with rfl | rfl | rfl | rfl | rfl <;> rfl) h hb hn
  obtain ⟨a, c, rfl⟩ := own_shape h2
  exact ⟨a, c, w', hid h1, hid (by rw [List.flatMap_append, List.length_append]; exact h2), hid h3⟩
/-- What stays where steps are laid: all below base, and all else but the layout and rows of steps. -/
structure LF (base p : Nat) (w w' : World) : Prop where
  os : w'.os = w.os
  tape : w'.tape = w.tape
  output : w'.output = w.output
  size : w.heap.size ≤ w'.heap.size
  block : ∀ k, k < w.heap.size → k < base ∨ (k ≠ p ∧ ∀ cs fr, w.heap[k]? ≠ some (.cells cs 42 fr)) → w'.heap[k]? = w.heap[k]?
theorem LF.refl (base p : Nat) (w : World) : LF base p w w := ⟨rfl, rfl, rfl, Nat.le_refl _, fun _ _ _ => rfl⟩
theorem LF.trans {base p : Nat} {w w1 w2 : World} (h : LF base p w w1) (g : LF base p w1 w2) : LF base p w w2 :=
  ⟨g.os.trans h.os, g.tape.trans h.tape, g.output.trans h.output, Nat.le_trans h.size g.size, fun k hk hf => by
    have e := h.block k hk hf
    rw [g.block k (Nat.lt_of_lt_of_le hk h.size) (hf.imp id fun ⟨h1, h2⟩ => ⟨h1, fun cs fr => by rw [e]; exact h2 cs fr⟩), e]⟩
theorem LF.ofBelow {base p : Nat} {w w' : World} (h : Below w.heap.size w w') : LF base p w w' := ⟨h.os, h.tape, h.output, h.size, fun k hk _ => h.block k hk⟩
theorem LF.below {base p : Nat} {w w' : World} (h : LF base p w w') (hb : base ≤ w.heap.size) : Below base w w' := ⟨h.os, h.tape, h.output, h.size, fun k hk => h.block k (by omega) (.inl hk)⟩
theorem LF.set {base p : Nat} (w : World) (i : Nat) (v : Value) (hp : base ≤ p) : LF base p w (w.setCell ⟨p, i, none⟩ v) :=
  ⟨rfl, rfl, rfl, by simp [World.setCell], fun k hk hf => Below.heap_setCell _ _ _ _ (fun e => by
    have e' : k = p := e
    rcases hf with hf | ⟨hf, _⟩
    · omega
    · exact hf e')⟩
theorem LF.pre {base p : Nat} {w w1 w2 : World} (g : LF base p w1 w2) (hb : Below w.heap.size w w1) : LF base p w w2 := (LF.ofBelow hb).trans g
def ints (ns : List Int) : Array Value := (ns.map (fun n => Value.int .i64 n)).toArray
theorem rowOf' {w : World} {b : Nat} {t : TypeId} {cs : Array Value} (B : Blk w b t cs) (k n : Nat) (fl : List Value) (h : cs = fl.toArray) (hl : fl.length = n * k) (hn : n ≤ 9223372036854775807) : RowS w AnyZ k (.slice (some ⟨b, 0, none⟩) n n) n fl :=
  ⟨some ⟨b, 0, none⟩, n, rfl, hl, Nat.le_refl _, hn, .inr ⟨b, 0, rfl, trivial, fun j u hu => by
    rw [Nat.zero_add]
    exact B.cell j u (by rw [h, List.getElem?_toArray]; exact hu)⟩⟩
theorem mapI : ∀ ns : List Int, ns.map (fun n => Value.int .i64 n) = ns.flatMap cI64
  | [] => rfl
  | a :: r => by rw [List.map_cons, List.flatMap_cons, mapI r]; rfl
theorem ints_row {w : World} {b : Nat} (ns : List Int) (hl : ns.length ≤ 4) (B : Blk w b 3 (ints ns)) : RowS w AnyZ 1 (.slice (some ⟨b, 0, none⟩) ns.length ns.length) ns.length (ns.flatMap cI64) :=
  rowOf' B 1 ns.length _ (by unfold ints; congr 1; exact mapI ns) (flatM_len (g := cI64) (fun _ => rfl) ns) (by omega)
theorem wraps_i64 (n : Int) (h0 : 0 ≤ n) (h1 : n < 2 ^ 62) : IntKind.i64.wrap n = n := by
  simp [IntKind.wrap, IntKind.bits, IntKind.signed]
  omega
theorem LF.keep {base p : Nat} {w w' : World} (h : LF base p w w') (hb : base ≤ w.heap.size) : Keep (· < base) w w' := ⟨h.os, h.tape, h.output, h.size, fun k hk hf => h.block k hk (.inl hf)⟩
theorem cf_enter {f : FuncId} {fn : Func} (hf : Try.prog.funcs[f]? = some fn) (hname : (fn.name == "runtime.NumGoroutine") = false) (hb : fn.body.isNone = false) (args : Array Value) (W : World) : (callFunc f args).run Try.prog W = .ok (.enter f args) W := by
  unfold callFunc
  simp only [Sem.run_bind, run_program, Result.andThen_ok, hf, hname, hb, Bool.false_eq_true, if_false, Sem.run_pure]
end Go.Proofs.Ytliohglpbmpbhaa
