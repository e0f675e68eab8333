/-
  merge: the paths of a message: list.
-/
import Derived.Test.YtkifjpaoncjokaaGreatDoorCBN
import Derived.Test.YtkifjpaoncjokaaGreatDoorCw8G
import Derived.Lib.AppendStr
namespace Go.Proofs.YtkifjpaoncjokaaGreatDoor
open Go.RowKit
set_option maxRecDepth 1000000
set_option linter.unusedVariables false
set_option linter.unusedSimpArgs false
set_option maxHeartbeats 2000000
def fsAt (l : List TV) (r : Int) : List FT := (l[r.toNat]?.map (fun x => x.t.fs)).getD []
def goP (fs : List FT) (x : CF CM) : Bool := isWyB (ownF fs x.num) && decide (0 < (wthM x).fs.length)
/-- The paths of a message's fields, so deep, behind what stands ahead. -/
def pt1 (P : List FT → List Int → CM → List (List Int)) (l : List TV) (fs : List FT) (ah : List Int) (x : CF CM) : List (List Int) :=
  if goP fs x then P (fsAt l (ownF fs x.num).ref) (ah ++ (ownF fs x.num).name ++ [46]) (wthM x) else [ah ++ (ownF fs x.num).name]
def ptM (l : List TV) : Nat → List FT → List Int → CM → List (List Int)
  | 0, _, _, _ => []
  | d + 1, fs, ah, m => m.fs.flatMap (pt1 (ptM l d) l fs ah)
/-- Fields through which paths go on have messages within. -/
def PtOk (l : List TV) : Nat → List FT → CM → Prop
  | 0, _, _ => True
  | d + 1, fs, m => ∀ x ∈ m.fs, (TxA (ownF fs x.num).name ∧ (ownF fs x.num).name.length ≤ 4000000) ∧ (isWyB (ownF fs x.num) = true → (∃ v vs z zs, x.vs = v :: vs ∧ v.ms = z :: zs) ∧ ∃ (k : Nat) (hk : k < l.length), (ownF fs x.num).ref = (k : Int) ∧ PtOk l d l[k].t.fs (wthM x))
theorem strCells_numsP (ys : List Int) (hb : ∀ y ∈ ys, 0 ≤ y ∧ y ≤ 255) : Lib.strCells (strOfNums ys) = ys.map (Value.int .u8) := by
  unfold Lib.strCells strOfNums
  simp only [List.toList_toArray, List.map_map]
  apply List.map_congr_left
  intro y hy
  have := hb y hy
  simp only [Function.comp, UInt8.toNat_ofNat']
  congr 1
  omega
theorem Tryz.info5P : (Tryz.prog.info? 5).map (fun i => (i.zero, i.size, i.bytes)) = some (some (.int .u8 0), 1, 1) := by kernel_rfl
/-- Bytes of one's own, a string's behind them. -/
theorem addStr (base : Nat) (v : Value) (xs ys : List Int) (w : World) (ho : w.ownsRow base 5 1 v xs.length (xs.map (Value.int .u8))) (hb : base ≤ w.heap.size) (hy : ∀ y ∈ ys, 0 ≤ y ∧ y ≤ 255) (hn : xs.length + ys.length ≤ 140737488355328) : ∃ v' w', Hid ((Builtin.append_ #[36, 9] 36 #[v, .string (strOfNums ys)]).run Tryz.prog w = .ok v' w') ∧ Hid (w'.ownsRow base 5 1 v' (xs ++ ys).length ((xs ++ ys).map (Value.int .u8))) ∧ Hid (w.grownBy w' v.ownBlock) := by
  obtain ⟨i0, hi, hz0, hz1, hz2⟩ := info_parts Tryz.info5P
  have hsz : (strOfNums ys).size = ys.length := strOfNums_size ys
  obtain ⟨v', w', hr, h2, h3, h4⟩ := Lib.run_append_own_string (P := Tryz.prog) w base 36 9 36 5 i0 Tryz.underlying36 Tryz.underlying9 hi hz0 hz1 hz2 v xs.length _ ho (strOfNums ys) (by rw [hsz]; unfold maxLen; omega) (by rw [hsz]; exact hn) hb
  rw [strCells_numsP ys hy, hsz] at h2
  exact ⟨v', w', hid hr, hid (by rw [List.map_append, List.length_append]; exact h2), hid h3⟩
theorem step_append_tu {P : Program} {ops : Array Oper} {o : Oper} {a : Act} {w : World} {K : Act → World → Prop} {Q : Exit → Act → World → Prop} {E : Prop}
    (hg : o.guard = none) (s x : Operand) (t u ty : TypeId) (hop : o.op = Op.call { callee := Callee.builtin Builtin.append, args := #[s, x], argTypes := #[t, u] }) (hty : o.type = ty)
    (v xv v' : Value) (w' : World) (hs : a.eval s = v) (hx : a.eval x = xv) (hr : (Builtin.append_ #[t, u] ty #[v, xv]).run P w = .ok v' w') (hK : K (a.put o.dst v') w') :
    if Region.wanted o (yielded ops a.tmps) = true then Oper.wp P o a w K Q else E := by
  have hw : Region.wanted o (yielded ops a.tmps) = true := by simp [Region.wanted, hg]
  rw [if_pos hw]
  subst hty
  unfold Oper.wp
  simp [execOp, hop, resolve, invoke, builtin, hs, hx, hr, Result.andThen]
  exact hK
theorem Keep.ofGB {w w' : World} {r : Option Nat} {f : Nat → Prop} (h : w.grownBy w' r) (hf : ∀ k, f k → r ≠ some k) : Keep f w w' := ⟨h.os, h.tape, h.output, h.size, fun k hk hk' => h.block k hk (fun e => hf k hk' e.symm)⟩
theorem own_cutB {w : World} {base : Nat} {a : Option Addr} {n c k : Nat} {xs ys : List Int} (h : w.ownsRow base 5 1 (.slice a n c) (xs ++ ys).length ((xs ++ ys).map (Value.int .u8))) (hk : k = xs.length) : w.ownsRow base 5 1 (.slice a k c) xs.length (xs.map (Value.int .u8)) := by
  subst hk
  refine ⟨by simp, ?_⟩
  rcases h.2 with ⟨e, h0⟩ | ⟨g, cap, cur, e, hbg, hg, hnc, hcm, hcs, htake⟩
  · simp only [Value.slice.injEq] at e
    obtain ⟨rfl, rfl, rfl⟩ := e
    have : xs.length = 0 := by rw [List.length_append] at h0; omega
    exact .inl ⟨by rw [this], this⟩
  · simp only [Value.slice.injEq] at e
    obtain ⟨rfl, rfl, rfl⟩ := e
    refine .inr ⟨g, c, cur, rfl, hbg, hg, by rw [List.length_append] at hnc; omega, hcm, hcs, ?_⟩
    have e2 := congrArg (List.take xs.length) htake
    rw [List.map_append, List.take_take] at e2
    rw [Nat.mul_one]
    rw [show min xs.length ((xs ++ ys).length * 1) = xs.length by rw [List.length_append]; omega] at e2
    rw [e2]
    exact List.take_left' (by simp)
/-- A lister: what stands ahead, and the paths so far. -/
structure LsS (W0 : World) (p : Nat) (tv : Value) (wr : World) (av pv : Value) (ah : List Int) (ps : List (List Int)) : Prop where
  blk : Blk wr p 84 #[tv, av, pv]
  oa : wr.ownsRow (p + 1) 5 1 av ah.length (ah.map (Value.int .u8))
  op : wr.ownsRow (p + 1) 9 1 pv ps.length (ps.map (fun s => Value.string (strOfNums s)))
  bel : Below W0.heap.size W0 wr
theorem LsS.kept {W0 : World} {p : Nat} {tv : Value} {wr wr' : World} {av pv : Value} {ah : List Int} {ps : List (List Int)} (h : LsS W0 p tv wr av pv ah ps) (g : Below wr.heap.size wr wr') : LsS W0 p tv wr' av pv ah ps := ⟨h.blk.kept g, own_kept h.oa g, own_kept h.op g, bl_then h.bel g⟩
theorem own_apP {w : World} {b1 b2 e1 e2 z1 z2 n1 n2 k : Nat} {u v : Value} {f1 f2 : List Value} (h : w.ownsRow b1 e1 z1 u n1 f1) (g : w.ownsRow b2 e2 z2 v n2 f2) (ht : e1 ≠ e2) (hk : u.ownBlock = some k) : v.ownBlock ≠ some k := fun hv => by
  obtain ⟨_, _, c1, q1⟩ := own_type h hk
  obtain ⟨_, _, c2, q2⟩ := own_type g hv
  rw [q1] at q2
  cases q2
  exact ht rfl
/-- Blocks of other types than bytes and strings stay, but for p. -/
def BK (p : Nat) (w w' : World) : Prop := ∀ (q : Nat) (t : TypeId) (cs : Array Value), q ≠ p → t ≠ 5 → t ≠ 9 → Blk w q t cs → Blk w' q t cs
theorem BK.refl (p : Nat) (w : World) : BK p w w := fun _ _ _ _ _ _ h => h
theorem BK.trans {p : Nat} {w w1 w2 : World} (h : BK p w w1) (g : BK p w1 w2) : BK p w w2 := fun q t cs a b c d => g q t cs a b c (h q t cs a b c d)
theorem BK.bel {p : Nat} {w w' : World} (h : Below w.heap.size w w') : BK p w w' := fun q t cs _ _ _ d => d.kept h
theorem BK.put {p j : Nat} {w w' : World} {u : Value} (h : BK p w w') : BK p w (w'.setCell ⟨p, j, none⟩ u) := fun q t cs a b c d => (h q t cs a b c d).other (a := ⟨p, j, none⟩) a _
theorem BK.ofRow {p : Nat} {w w' : World} {v : Value} {base e n : Nat} {fl : List Value} (o : w.ownsRow base e 1 v n fl) (he : e = 5 ∨ e = 9) (g : ∀ k, k < w.heap.size → v.ownBlock ≠ some k → w'.heap[k]? = w.heap[k]?) : BK p w w' := fun q t cs _ b c d => (g q d.lt (fun hk => by
  obtain ⟨_, _, cur, h3⟩ := own_type o hk
  rw [show w.heap[q]? = _ from d] at h3
  cases h3
  rcases he with h | h
  · exact b h
  · exact c h)).trans d
/-- A string behind what stands ahead. -/
theorem LsS.str {W0 : World} {p : Nat} {tv : Value} {wr : World} {av pv : Value} {ah : List Int} {ps : List (List Int)} (h : LsS W0 p tv wr av pv ah ps) (hp : W0.heap.size ≤ p) (ys : List Int) (hy : ∀ y ∈ ys, 0 ≤ y ∧ y ≤ 255) (hn : ah.length + ys.length ≤ 140737488355328) : ∃ a c w', Hid ((Builtin.append_ #[36, 9] 36 #[av, .string (strOfNums ys)]).run Tryz.prog wr = .ok (.slice a (ah ++ ys).length c) w') ∧ Hid (Blk w' p 84 #[tv, av, pv]) ∧ Hid (LsS W0 p tv (w'.setCell ⟨p, 1, none⟩ (.slice a (ah ++ ys).length c)) (.slice a (ah ++ ys).length c) pv (ah ++ ys) ps) ∧ Hid (Below W0.heap.size W0 w') ∧ wr.heap.size ≤ w'.heap.size ∧ Hid (BK p wr w') := by
  obtain ⟨v', w', r1, o1, g1⟩ := addStr (p + 1) av ah ys wr h.oa h.blk.lt hy hn
  obtain ⟨a, c, rfl⟩ := own_shape o1.out
  have hB : Blk w' p 84 #[tv, av, pv] := h.blk.keep (Keep.ofGB (f := (· = p)) g1.out (fun k hk e => by
    subst hk
    have := (own_type h.oa e).1
    omega)) rfl
  have hO : w'.ownsRow (p + 1) 9 1 pv ps.length (ps.map (fun s => Value.string (strOfNums s))) := own_keep (f := fun k => av.ownBlock ≠ some k) h.op (fun k hk e => own_apP h.oa h.op (by decide) e hk) (Keep.ofGB g1.out (fun k hk e => hk e))
  have hb : Below W0.heap.size W0 w' := h.bel.trans ((Keep.ofGB (f := (· < W0.heap.size)) g1.out (fun k hk e => by
    have := (own_type h.oa e).1
    omega)).below h.bel.size (fun k hk => hk))
  refine ⟨a, c, w', r1, hid hB, hid ⟨hB.set 1 _, own_othW o1.out hB (by decide), own_othW hO hB (by decide), bl_set hb hp _⟩, hid hb, g1.out.size, hid (BK.ofRow h.oa (.inl rfl) (fun k hk hne => g1.out.block k hk (fun e => hne e.symm)))⟩
theorem dotReads {w : World} {b : Nat} (h : Blk w b 5 #[.int .u8 46]) : W.Reads w (some ⟨b, 0, none⟩) 1 1 [46] := by
  refine ⟨rfl, Nat.le_refl _, by decide, fun i => ?_, .inr ⟨b, 0, rfl, fun i hi => ?_⟩⟩
  · cases i with
    | zero => decide
    | succ i => simp
  · obtain rfl : i = 0 := by omega
    rw [h.cellF]
    rfl
/-- A dot behind what stands ahead. -/
theorem LsS.dot {W0 : World} {p : Nat} {tv : Value} {wr : World} {av pv : Value} {ah : List Int} {ps : List (List Int)} (h : LsS W0 p tv wr av pv ah ps) (hp : W0.heap.size ≤ p) (hn : ah.length + 1 ≤ 140737488355328) : ∃ a c w', Hid ((Builtin.append_ #[36, 36] 36 #[av, .slice (some ⟨wr.heap.size, 0, none⟩) 1 1]).run Tryz.prog (wr.alloc (.cells #[.int .u8 46] 5)) = .ok (.slice a (ah ++ [46]).length c) w') ∧ Hid (Blk w' p 84 #[tv, av, pv]) ∧ Hid (LsS W0 p tv (w'.setCell ⟨p, 1, none⟩ (.slice a (ah ++ [46]).length c)) (.slice a (ah ++ [46]).length c) pv (ah ++ [46]) ps) ∧ Hid (Below W0.heap.size W0 w') ∧ wr.heap.size ≤ w'.heap.size ∧ Hid (BK p wr w') := by
  have h2 := h.kept (below_alloc (w := wr) (.cells #[.int .u8 46] 5))
  obtain ⟨v', w', r1, o1, g1⟩ := W.append_bytes (p + 1) av ah.length _ (wr.alloc (.cells #[.int .u8 46] 5)) (some ⟨wr.heap.size, 0, none⟩) 1 1 [46] h2.oa h2.blk.lt (dotReads (Blk.new _ _ _)) hn
  have o1' : w'.ownsRow (p + 1) 5 1 v' (ah ++ [46]).length ((ah ++ [46]).map (Value.int .u8)) := by rw [List.map_append, List.length_append]; exact o1
  obtain ⟨a, c, rfl⟩ := own_shape o1'
  have hB : Blk w' p 84 #[tv, av, pv] := (g1.block p h2.blk.lt (fun e => by
    have := (own_type h.oa e).1
    omega)).trans h2.blk
  have K : ∀ f : Nat → Prop, (∀ k, f k → av.ownBlock ≠ some k) → Keep f (wr.alloc (.cells #[.int .u8 46] 5)) w' := fun f hf => ⟨g1.os, g1.tape, g1.output, g1.size, fun k hk hk' => g1.block k hk (hf k hk')⟩
  have hO : w'.ownsRow (p + 1) 9 1 pv ps.length (ps.map (fun s => Value.string (strOfNums s))) := own_keep (f := fun k => av.ownBlock ≠ some k) h2.op (fun k hk e => own_apP h2.oa h2.op (by decide) e hk) (K _ (fun k hk => hk))
  have hb : Below W0.heap.size W0 w' := h2.bel.trans ((K (· < W0.heap.size) (fun k hk e => by
    have := (own_type h.oa e).1
    omega)).below h2.bel.size (fun k hk => hk))
  refine ⟨a, c, w', hid r1, hid hB, hid ⟨hB.set 1 _, own_othW o1' hB (by decide), own_othW hO hB (by decide), bl_set hb hp _⟩, hid hb, by have := g1.size; simp at this; omega, hid ((BK.bel (below_alloc _)).trans (BK.ofRow h2.oa (.inl rfl) (fun k hk hne => g1.block k hk hne)))⟩
theorem Tryz.infoStr : (Tryz.prog.info? 9).map (fun i => (i.zero, i.size, i.bytes)) = some (some (.string ⟨#[]⟩), 1, 16) := by kernel_rfl
/-- A path more. -/
theorem LsS.path {W0 : World} {p : Nat} {tv : Value} {wr : World} {av pv : Value} {ah : List Int} {ps : List (List Int)} (h : LsS W0 p tv wr av pv ah ps) (hp : W0.heap.size ≤ p) (hn : ps.length ≤ 4000000) : ∃ a c w', Hid ((Builtin.append_ #[52, 52] 52 #[pv, .slice (some ⟨wr.heap.size, 0, none⟩) 1 1]).run Tryz.prog (wr.alloc (.cells #[.string (strOfNums ah)] 9)) = .ok (.slice a (ps.length + 1) c) w') ∧ Hid (Blk w' p 84 #[tv, av, pv]) ∧ Hid (LsS W0 p tv (w'.setCell ⟨p, 2, none⟩ (.slice a (ps.length + 1) c)) av (.slice a (ps.length + 1) c) ah (ps ++ [ah])) ∧ Hid (Below W0.heap.size W0 w') ∧ wr.heap.size ≤ w'.heap.size ∧ Hid (BK p wr w') ∧ Hid (w'.ownsRow (p + 1) 5 1 av ah.length (ah.map (Value.int .u8))) := by
  obtain ⟨v', w', r1, o1, g1⟩ := append_st 9 52 1 16 (.string ⟨#[]⟩) Tryz.underlying52 Tryz.infoStr rfl (by decide) (by decide) (p + 1) pv ps.length _ wr #[.string (strOfNums ah)] rfl (fun u hu => by simp at hu; subst hu; rfl) h.op h.blk.lt hn
  have o1' : w'.ownsRow (p + 1) 9 1 v' (ps ++ [ah]).length ((ps ++ [ah]).map (fun s => Value.string (strOfNums s))) := by rw [List.map_append, List.length_append]; exact o1
  obtain ⟨a, c, rfl⟩ := own_shape o1
  have hB : Blk w' p 84 #[tv, av, pv] := (g1.block p h.blk.lt (fun e => by
    have := (own_type h.op e).1
    omega)).trans h.blk
  have hO : w'.ownsRow (p + 1) 5 1 av ah.length (ah.map (Value.int .u8)) := own_keep (f := fun k => pv.ownBlock ≠ some k) h.oa (fun k hk e => own_apP h.op h.oa (by decide) e hk) (Keep.ofGrow g1 (fun k hk => hk))
  have hb : Below W0.heap.size W0 w' := h.bel.trans ((Keep.ofGrow (f := (· < W0.heap.size)) g1 (fun k hk e => by
    have := (own_type h.op e).1
    omega)).below h.bel.size (fun k hk => hk))
  refine ⟨a, c, w', hid r1, hid hB, hid ⟨hB.set 2 _, own_othW hO hB (by decide), ?_, bl_set hb hp _⟩, hid hb, g1.size, hid (BK.ofRow h.op (.inr rfl) (fun k hk hne => g1.block k hk hne)), hid hO⟩
  have := own_othW (q := p) (j := 2) (u := .slice a (ps.length + 1) c) o1' hB (by decide)
  exact this
/-- Cut back. -/
theorem LsS.cut {W0 : World} {p : Nat} {tv : Value} {wr : World} {pv : Value} {a : Option Addr} {n c k : Nat} {ah bs : List Int} {ps : List (List Int)} (h : LsS W0 p tv wr (.slice a n c) pv (ah ++ bs) ps) (hp : W0.heap.size ≤ p) (hk : k = ah.length) : LsS W0 p tv (wr.setCell ⟨p, 1, none⟩ (.slice a k c)) (.slice a k c) pv ah ps :=
  ⟨h.blk.set 1 _, own_othW (own_cutB h.oa hk) h.blk (by decide), own_othW h.op h.blk (by decide), bl_set h.bel hp _⟩
theorem keepW0 {W0 w w' : World} (h : Below W0.heap.size W0 w) (g : Below W0.heap.size W0 w') (hs : w.heap.size ≤ w'.heap.size) : Keep (· < W0.heap.size) w w' := ⟨g.os.trans h.os.symm, g.tape.trans h.tape.symm, g.output.trans h.output.symm, hs, fun b _ hb => (g.block b hb).trans (h.block b hb).symm⟩
theorem own_capP {w : World} {base : Nat} {a : Option Addr} {n c k : Nat} {fl : List Value} (h : w.ownsRow base 5 1 (.slice a n c) k fl) : n ≤ c := by
  rcases h.2 with ⟨e, _⟩ | ⟨g, cap, cur, e, hbg, hg, hnc, hcm, hcs, htake⟩
  · simp only [Value.slice.injEq] at e
    omega
  · simp only [Value.slice.injEq] at e
    omega
theorem own_lenP {w : World} {base : Nat} {a : Option Addr} {n c k : Nat} {fl : List Value} (h : w.ownsRow base 5 1 (.slice a n c) k fl) : n = k := by
  rcases h.2 with ⟨e, _⟩ | ⟨g, cap, cur, e, hbg, hg, hnc, hcm, hcs, htake⟩
  · simp only [Value.slice.injEq] at e
    omega
  · simp only [Value.slice.injEq] at e
    omega
theorem own_capM {w : World} {base : Nat} {a : Option Addr} {n c k : Nat} {fl : List Value} (h : w.ownsRow base 5 1 (.slice a n c) k fl) : c ≤ 9223372036854775807 := by
  rcases h.2 with ⟨e, _⟩ | ⟨g, cap, cur, e, hbg, hg, hnc, hcm, hcs, htake⟩
  · simp only [Value.slice.injEq] at e
    omega
  · simp only [Value.slice.injEq] at e
    unfold maxLen at hcm
    omega
theorem fieldRunP (s u : Value) (W1 : World) (hs : s.cells = #[s]) : (Instr.field 29 (.agg #[s, u]) 0).run Tryz.prog W1 = .ok s W1 := by
  simp [Instr.field, part, asAgg, go_sem]
def LsA (W0 : World) (p : Nat) (tv : Value) (ah : List Int) (ps : List (List Int)) (w : World) (e : Ending) (w' : World) : Prop := e = .returned (.tuple #[]) ∧ ∃ av pv, LsS W0 p tv w' av pv ah ps ∧ w.heap.size ≤ w'.heap.size ∧ BK p w w'
def LsC (l : List TV) (W0 : World) (p : Nat) (tv : Value) (d : Nat) : Prop := ∀ (w : World) (k : Nat) (hk : k < l.length) (cs : List Value) (m : CM) (ah : List Int) (ps : List (List Int)) (av pv : Value), MsgE w (· < W0.heap.size) d cs m → PtOk l d l[k].t.fs m → LsS W0 p tv w av pv ah ps → (∀ c ∈ ah, 0 ≤ c ∧ c ≤ 255) → ah.length + d * 4000001 ≤ 140737488355328 → ps.length + (ptM l d l[k].t.fs ah m).length ≤ 4000000 → Calls Tryz.prog 30 #[.pointer (some ⟨p, 0, none⟩), .agg (cTV l[k]).toArray, .agg cs.toArray] w (LsA W0 p tv ah (ps ++ ptM l d l[k].t.fs ah m) w)
theorem listStep (l : List TV) (hok : ∀ x ∈ l, OkV x) (hg : goodB l = true) (W0 : World) (p : Nat) (ta : Option Addr) (tc : Nat) (hT : TbR W0 (.slice ta l.length tc) l) (hp : W0.heap.size ≤ p) (d : Nat) (ih : LsC l W0 p (.slice ta l.length tc) d) : LsC l W0 p (.slice ta l.length tc) (d + 1) := by
  intro w k hk cs m ah ps av pv hm hq hs hab hn1 hn2
  obtain ⟨fa, fc, ua, uc, rfl, g1, g2, l1, l2⟩ := msg_open hm
  obtain ⟨tb, tq, eta, -⟩ := rowAt (g := cTV) (fun _ => rfl) hT.row (i := k) (x := l[k]) (by simp [hk])
  subst eta
  have HTC : Hid (∀ (k2 : Nat) (hk2 : k2 < l.length) (i : Nat) (u : Value), (cTV l[k2])[i]? = some u → W0.cell? ⟨tb, tq + k2 * 6 + i, none⟩ = some u) := hid (fun k2 hk2 => by
    obtain ⟨tb', tq', e', hc⟩ := rowAt (g := cTV) (fun _ => rfl) hT.row (i := k2) (x := l[k2]) (by simp [hk2])
    simp only [Option.some.injEq, Addr.mk.injEq, and_true] at e'
    obtain ⟨rfl, rfl⟩ := e'
    exact hc)
  obtain ⟨a1, c1, a2, c2, a3, c3, a4, c4, e1, e2, e3, e4⟩ := shT_of (hT.ty l[k] (List.getElem_mem hk))
  have ec : cTV l[k] = [.string (strOfNums l[k].t.name), .bool l[k].t.enum, .slice a1 l[k].t.fs.length c1, .slice a2 l[k].t.os.length c2, .slice a3 l[k].t.ss.length c3, .slice a4 l[k].t.rs.length c4] := by unfold cTV; rw [e1, e2, e3, e4]
  have hrs := good_rise hg (List.getElem_mem hk)
  have HFD := hid fun (W1 : World) (n : Int) (hW : Below W0.heap.size W0 W1) => findT l[k].t.fs n W1 a1 c1 (by have := (hT.kept hW).ty l[k] (List.getElem_mem hk); have := this.f; rw [e1] at this; exact this) hrs.1 hrs.2
  rw [ec]
  have HM := hid hm
  have HS := hid hs
  have HQ : Hid (PtOk l (d + 1) l[k].t.fs m) := hid hq
  have HAB := hid hab
  have HN1 := hid hn1
  have HIH := hid ih
  have n63 : (m.fs.length : Int) ≤ 4000000 := by omega
  have HP : Hid (ptM l (d + 1) l[k].t.fs ah m = m.fs.flatMap (pt1 (ptM l d) l l[k].t.fs ah)) := hid rfl
  have HN2 := hid hn2
  have hpw : p < w.heap.size := hs.blk.lt
  clear hm g1 g2 hq hs hab hn1 hn2 ih l1 l2 ec e1 e2 e3 e4 hrs
  obtain ⟨F, HF⟩ : ∃ F, Hid (F = pt1 (ptM l d) l l[k].t.fs ah) := ⟨_, hid rfl⟩
  rw [HP.out, ← HF.out] at HN2 ⊢
  clear HP
  have HMW := hid fun (W1 : World) (hW : Below W0.heap.size W0 W1) (hs1 : w.heap.size ≤ W1.heap.size) => MsgE.go (w' := W1) (f := (· < W0.heap.size)) (Z' := (· < W0.heap.size)) ⟨hW.os.trans HS.out.bel.os.symm, hW.tape.trans HS.out.bel.tape.symm, hW.output.trans HS.out.bel.output.symm, hs1, fun b _ hb => (hW.block b hb).trans (HS.out.bel.block b hb).symm⟩ (fun _ h => h) (fun _ h => h) (d + 1) _ _ HM.out
  generalize hfs : l[k].t.fs = fs at *
  generalize l[k].t.name = nm at *
  generalize l[k].t.enum = en at *
  generalize l[k].t.os.length = n2 at *
  generalize l[k].t.ss.length = n3 at *
  generalize l[k].t.rs.length = n4 at *
  clear hfs
  go_enter Tryz.func30, Tryz.ntmps30
  go_wp2_with fail
  have BX0 : Hid (Blk ((w.alloc (.cells #[.string (strOfNums nm), .bool en, .slice a1 fs.length c1, .slice a2 n2 c2, .slice a3 n3 c3, .slice a4 n4 c4] 63)).alloc (.cells #[.slice fa m.fs.length fc, .slice ua m.us.length uc] 29)) w.heap.size 63 #[.string (strOfNums nm), .bool en, .slice a1 fs.length c1, .slice a2 n2 c2, .slice a3 n3 c3, .slice a4 n4 c4]) := hid ((Blk.new _ _ _).kept (below_alloc _))
  have BL0 : Hid (Below w.heap.size w ((w.alloc (.cells #[.string (strOfNums nm), .bool en, .slice a1 fs.length c1, .slice a2 n2 c2, .slice a3 n3 c3, .slice a4 n4 c4] 63)).alloc (.cells #[.slice fa m.fs.length fc, .slice ua m.us.length uc] 29))) := hid (bl_alloc (below_alloc _) _)
  generalize (w.alloc (.cells #[.string (strOfNums nm), .bool en, .slice a1 fs.length c1, .slice a2 n2 c2, .slice a3 n3 c3, .slice a4 n4 c4] 63)).alloc (.cells #[.slice fa m.fs.length fc, .slice ua m.us.length uc] 29) = V at *
  have hsV := BL0.out.size
  go_loopw [14] (fun r wr => ∃ (j : Nat) (av' pv' : Value), r = .int .i64 j ∧ j ≤ m.fs.length ∧ Hid (LsS W0 p (.slice (some ⟨tb, tq, none⟩) l.length tc) wr av' pv' ah (ps ++ (m.fs.take j).flatMap F)) ∧ Hid (BK p V wr) ∧ V.heap.size ≤ wr.heap.size) (fun r wr => m.fs.length - numAt wr r)
  case atStart => exact ⟨0, av, pv, rfl, by omega, hid (by simpa using HS.out.kept BL0.out), hid (BK.refl _ _), Nat.le_refl _⟩
  case round =>
    obtain ⟨j, av', pv', rfl, hj, HR, HBK, hsz⟩ := hrel
    by_cases hlt : j < m.fs.length
    · have j1 : (j : Int) < (m.fs.length : Int) := by omega
      obtain ⟨fa', fc', ua', uc', ecs, hfl, -, -, -⟩ := msg_open (HMW.out _ HR.out.bel (by omega))
      simp only [List.cons.injEq, Value.slice.injEq, true_and, and_true] at ecs
      obtain ⟨⟨rfl, rfl⟩, -⟩ := ecs
      obtain ⟨b1, o1, ka1, kc1, va1, vc1, efa, -, hb1, d0, d1, d2, he⟩ := fls_at hfl hlt
      subst efa
      have HE := hid he
      have HQJ := hid (HQ.out m.fs[j] (List.getElem_mem hlt))
      have HTK : Hid ((m.fs.take (j + 1)).flatMap F = (m.fs.take j).flatMap F ++ F m.fs[j]) := hid (by rw [List.take_succ_eq_append_getElem hlt, List.flatMap_append]; simp)
      have HFX : Hid (F m.fs[j] = if isWyB (ownF fs m.fs[j].num) && decide (0 < (wthM m.fs[j]).fs.length) then ptM l d (fsAt l (ownF fs m.fs[j].num).ref) (ah ++ (ownF fs m.fs[j].num).name ++ [46]) (wthM m.fs[j]) else [ah ++ (ownF fs m.fs[j].num).name]) := hid (by rw [HF.out]; rfl)
      have HLJ : Hid (ps.length + ((m.fs.take j).flatMap F).length + (F m.fs[j]).length ≤ 4000000) := hid (by
        have h1 := HN2.out
        have h2 : m.fs.flatMap F = (m.fs.take (j + 1)).flatMap F ++ (m.fs.drop (j + 1)).flatMap F := by rw [← List.flatMap_append, List.take_append_drop]
        rw [h2, HTK.out, List.length_append, List.length_append] at h1
        omega)
      have hI : I64 m.fs[j].num := by
        obtain ⟨_, _, _, _, _, _, _, _, _, h9⟩ := fld_open he
        exact h9
      have BXr := hid (HBK.out _ _ _ (by omega) (by decide) (by decide) BX0.out)
      clear he hfl
      generalize m.fs[j] = x at *
      generalize hps : ps ++ (m.fs.take j).flatMap F = pj at *
      have hpl : Hid (pj.length + (F x).length ≤ 4000000) := hid (by rw [← hps, List.length_append]; have := HLJ.out; omega)
      have HPJ : Hid (pj ++ F x = ps ++ (m.fs.take (j + 1)).flatMap F) := hid (by rw [← hps, HTK.out, List.append_assoc])
      clear HLJ HTK hps
      have xx := BXr.out.cellF
      have zx := BXr.out.lt
      go_wp2_with fail
      refine (HFD.out _ _ (bl_then HR.out.bel (by exact blBy))).mono ?_
      rintro e w2 ⟨rfl, hb2⟩
      have BO2 : Hid (Blk w2 wr.heap.size 33 #[.int .i64 x.num, .slice ka1 x.ks.length kc1, .slice va1 x.vs.length vc1]) := hid ((Blk.new _ _ _).kept hb2)
      replace hb2 : Hid (Below wr.heap.size wr w2) := hid (below_trans (below_alloc _) hb2)
      unfold tFT
      generalize ownF fs x.num = f at *
      generalize hasF fs x.num = fo at *
      clear d0 d1 d2 xx zx
      obtain ⟨aa, ac, rfl⟩ := own_shape HR.out.oa
      have HRU : Hid (LsS W0 p (.slice (some ⟨tb, tq, none⟩) l.length tc) (w2.alloc (.cells #[.string (strOfNums f.name), .int .i64 f.num, .int .i64 f.kind, .int .i64 f.ref, .int .i64 f.lab, .int .i64 f.one, .int .i64 f.key] 65)) (.slice aa ah.length ac) pv' ah pj) := hid (HR.out.kept (bl_alloc hb2.out _))
      have BFU : Hid (Blk (w2.alloc (.cells #[.string (strOfNums f.name), .int .i64 f.num, .int .i64 f.kind, .int .i64 f.ref, .int .i64 f.lab, .int .i64 f.one, .int .i64 f.key] 65)) w2.heap.size 65 #[.string (strOfNums f.name), .int .i64 f.num, .int .i64 f.kind, .int .i64 f.ref, .int .i64 f.lab, .int .i64 f.one, .int .i64 f.key]) := hid (Blk.new _ _ _)
      have BOU : Hid (Blk (w2.alloc (.cells #[.string (strOfNums f.name), .int .i64 f.num, .int .i64 f.kind, .int .i64 f.ref, .int .i64 f.lab, .int .i64 f.one, .int .i64 f.key] 65)) wr.heap.size 33 #[.int .i64 x.num, .slice ka1 x.ks.length kc1, .slice va1 x.vs.length vc1]) := hid (BO2.out.kept (below_alloc _))
      have HBU : Hid (BK p V (w2.alloc (.cells #[.string (strOfNums f.name), .int .i64 f.num, .int .i64 f.kind, .int .i64 f.ref, .int .i64 f.lab, .int .i64 f.one, .int .i64 f.key] 65))) := hid (HBK.out.trans (BK.bel (bl_alloc hb2.out _)))
      have hsU : wr.heap.size + 1 ≤ w2.heap.size := BO2.out.lt
      have HEU : Hid (FldE (w2.alloc (.cells #[.string (strOfNums f.name), .int .i64 f.num, .int .i64 f.kind, .int .i64 f.ref, .int .i64 f.lab, .int .i64 f.one, .int .i64 f.key] 65)) (· < W0.heap.size) (MsgE (w2.alloc (.cells #[.string (strOfNums f.name), .int .i64 f.num, .int .i64 f.kind, .int .i64 f.ref, .int .i64 f.lab, .int .i64 f.one, .int .i64 f.key] 65)) (· < W0.heap.size) d) [.int .i64 x.num, .slice ka1 x.ks.length kc1, .slice va1 x.vs.length vc1] x) := hid (Fam.go (famF d) HE.out (keepT (bl_alloc hb2.out _)) (fun _ _ => trivial) (fun _ h => h))
      have xl := HRU.out.blk.cellF
      have zl := HRU.out.blk.lt
      clear HR BO2 hb2 HBK HE
      have ah63 : (ah.length : Int) ≤ 9223372036854775807 := by have := HN1.out; omega
      go_upto_region 6 with fail
      generalize w2.alloc (.cells #[.string (strOfNums f.name), .int .i64 f.num, .int .i64 f.kind, .int .i64 f.ref, .int .i64 f.lab, .int .i64 f.one, .int .i64 f.key] 65) = U at *
      generalize w2.heap.size = fb at *
      generalize wr.heap.size = ob at *
      have HSK : Hid (∀ W1, Below U.heap.size U W1 → (∀ k, W1.cell? ⟨fb, k, none⟩ = #[.string (strOfNums f.name), .int .i64 f.num, .int .i64 f.kind, .int .i64 f.ref, .int .i64 f.lab, .int .i64 f.one, .int .i64 f.key][k]?) ∧ (∀ k, W1.cell? ⟨p, k, none⟩ = #[.slice (some ⟨tb, tq, none⟩) l.length tc, .slice aa ah.length ac, pv'][k]?)) := hid (fun W1 hW => ⟨(BFU.out.kept hW).cellF, (HRU.out.kept hW).blk.cellF⟩)
      refine wp_regionL (S := SL (fun W1 => ∀ k, W1.cell? ⟨fb, k, none⟩ = #[.string (strOfNums f.name), .int .i64 f.num, .int .i64 f.kind, .int .i64 f.ref, .int .i64 f.lab, .int .i64 f.one, .int .i64 f.key][k]?) (fun W1 => ∀ k, W1.cell? ⟨p, k, none⟩ = #[.slice (some ⟨tb, tq, none⟩) l.length tc, .slice aa ah.length ac, pv'][k]?) 10) (by kernel_rfl) (SL.of (HSK.out _ (below_drew1 U)).1 (HSK.out _ (below_drew1 U)).2) (fun hHeld => ?_)
      replace HRU := hid (HRU.out.kept (below_drew1 U))
      replace BFU := hid (BFU.out.kept (below_drew1 U))
      replace BOU := hid (BOU.out.kept (below_drew1 U))
      replace HBU : Hid (BK p V U.drew) := hid (HBU.out.trans (BK.bel (below_drew1 U)))
      replace HEU := hid (Fam.go (famF d) HEU.out (keepT (below_drew1 U)) (fun _ _ => trivial) (fun _ h => h))
      clear HSK xl zl
      generalize U.drew = wd at *
      obtain ⟨hTx, hNl⟩ := HQJ.out.1
      obtain ⟨a8, c8, w8, R8, B8, S8, L8, h8, K8⟩ := HRU.out.str hp f.name hTx.1 (by have := HN1.out; rw [Nat.add_mul] at this; omega)
      obtain ⟨n8, HN8⟩ : ∃ n8, Hid (n8 = (ah ++ f.name).length) := ⟨_, hid rfl⟩
      rw [← HN8.out] at R8 S8
      refine takeL0 0 (v := ?_) rfl (by kernel_rfl) (by kernel_rfl) (by kernel_rfl) (fun _ _ _ h => h) (by kernel_rfl) (Or.inl ⟨by rfl, ?_⟩) hHeld (fun hHeld => ?_)
      rotate_left
      · (intro w hSw; (try obtain ⟨hSw, hSx⟩ := hSw); (try dsimp only at hSw); (try dsimp only at hSx); go_simp; (try with_reducible rfl))
      try simp only [Act.put, List.getElem_toArray, List.getElem_cons_succ, List.getElem_cons_zero, List.setIfInBounds_toArray, List.set_cons_zero, List.set_cons_succ]
      refine takeL0 1 (v := ?_) rfl (by kernel_rfl) (by kernel_rfl) (by kernel_rfl) (fun _ _ _ h => h) (by kernel_rfl) (Or.inl ⟨by rfl, ?_⟩) hHeld (fun hHeld => ?_)
      rotate_left
      · (intro w hSw; (try obtain ⟨hSw, hSx⟩ := hSw); (try dsimp only at hSw); (try dsimp only at hSx); go_simp; (try with_reducible rfl))
      try simp only [Act.put, List.getElem_toArray, List.getElem_cons_succ, List.getElem_cons_zero, List.setIfInBounds_toArray, List.set_cons_zero, List.set_cons_succ]
      refine takeL0 2 (v := ?_) rfl (by kernel_rfl) (by kernel_rfl) (by kernel_rfl) (fun _ _ _ h => h) (by kernel_rfl) (Or.inl ⟨by rfl, ?_⟩) hHeld (fun hHeld => ?_)
      rotate_left
      · (intro w hSw; (try obtain ⟨hSw, hSx⟩ := hSw); (try dsimp only at hSw); (try dsimp only at hSx); go_simp; (try with_reducible rfl))
      try simp only [Act.put, List.getElem_toArray, List.getElem_cons_succ, List.getElem_cons_zero, List.setIfInBounds_toArray, List.set_cons_zero, List.set_cons_succ]
      refine takeL0 3 (v := ?_) rfl (by kernel_rfl) (by kernel_rfl) (by kernel_rfl) (fun _ _ _ h => h) (by kernel_rfl) (Or.inl ⟨by rfl, ?_⟩) hHeld (fun hHeld => ?_)
      rotate_left
      · (intro w hSw; (try obtain ⟨hSw, hSx⟩ := hSw); (try dsimp only at hSw); (try dsimp only at hSx); go_simp; (try with_reducible rfl))
      try simp only [Act.put, List.getElem_toArray, List.getElem_cons_succ, List.getElem_cons_zero, List.setIfInBounds_toArray, List.set_cons_zero, List.set_cons_succ]
      refine takeL1 4 (v := ?_) rfl rfl (by kernel_rfl) (by kernel_rfl) (by kernel_rfl) (by kernel_rfl) (by kernel_rfl) (fun _ _ _ h => h) (by kernel_rfl) (Or.inl ⟨by rfl, ?_⟩) hHeld (fun hHeld => ?_)
      rotate_left
      · (intro w hSw; (try obtain ⟨hSw, hSx⟩ := hSw); (try dsimp only at hSw); (try dsimp only at hSx); go_simp; (try with_reducible rfl))
      try simp only [Act.put, List.getElem_toArray, List.getElem_cons_succ, List.getElem_cons_zero, List.setIfInBounds_toArray, List.set_cons_zero, List.set_cons_succ]
      refine takeL0 5 (v := ?_) rfl (by kernel_rfl) (by kernel_rfl) (by kernel_rfl) (fun _ _ _ h => h) (by kernel_rfl) (Or.inl ⟨by rfl, ?_⟩) hHeld (fun hHeld => ?_)
      rotate_left
      · (intro w hSw; (try obtain ⟨hSw, hSx⟩ := hSw); (try dsimp only at hSw); (try dsimp only at hSx); go_simp; (try with_reducible rfl))
      try simp only [Act.put, List.getElem_toArray, List.getElem_cons_succ, List.getElem_cons_zero, List.setIfInBounds_toArray, List.set_cons_zero, List.set_cons_succ]
      refine takeL0 6 (v := ?_) rfl (by kernel_rfl) (by kernel_rfl) (by kernel_rfl) (fun _ _ _ h => h) (by kernel_rfl) (Or.inl ⟨by rfl, ?_⟩) hHeld (fun hHeld => ?_)
      rotate_left
      · (intro w hSw; (try obtain ⟨hSw, hSx⟩ := hSw); (try dsimp only at hSw); (try dsimp only at hSx); go_simp; (try with_reducible rfl))
      try simp only [Act.put, List.getElem_toArray, List.getElem_cons_succ, List.getElem_cons_zero, List.setIfInBounds_toArray, List.set_cons_zero, List.set_cons_succ]
      refine wpAnyL_ready (rs := [7]) (by kernel_rfl) (by simp) ?_
      refine AllReadyL.cons rfl (fun K hK => ?_) AllReadyL.nil
      refine step_append_tu rfl _ _ 36 9 36 rfl rfl _ _ (.slice a8 n8 c8) w8 rfl rfl R8.out ?_
      have BF8 := hid (K8.out _ _ _ (by have := HRU.out.blk.lt; omega) (by decide) (by decide) BFU.out)
      refine hK.out _ _ (SL.of BF8.out.cellF B8.out.cellF) (fun hHeld => ?_)
      clear hK K
      try simp only [Act.put, List.getElem_toArray, List.getElem_cons_succ, List.getElem_cons_zero, List.setIfInBounds_toArray, List.set_cons_zero, List.set_cons_succ]
      have y8 := B8.out.frz
      have z8 := B8.out.lt
      have x8 := B8.out.cellF
      refine takeL0 8 (v := ?_) rfl (by kernel_rfl) (by kernel_rfl) (by kernel_rfl) (fun _ _ _ h => h) (by kernel_rfl) (Or.inl ⟨by rfl, ?_⟩) hHeld (fun hHeld => ?_)
      rotate_left
      · (intro w hSw; (try obtain ⟨hSw, hSx⟩ := hSw); (try dsimp only at hSw); (try dsimp only at hSx); go_simp; (try with_reducible rfl))
      try simp only [Act.put, List.getElem_toArray, List.getElem_cons_succ, List.getElem_cons_zero, List.setIfInBounds_toArray, List.set_cons_zero, List.set_cons_succ]
      refine takeL0 9 (v := ?_) rfl (by kernel_rfl) (by kernel_rfl) (by kernel_rfl) (fun _ _ _ h => h) (by kernel_rfl) (Or.inl ⟨by rfl, ?_⟩) hHeld (fun hHeld => ?_)
      rotate_left
      · (intro w hSw; (try obtain ⟨hSw, hSx⟩ := hSw); (try dsimp only at hSw); (try dsimp only at hSx); go_simp; (try with_reducible rfl))
      try simp only [Act.put, List.getElem_toArray, List.getElem_cons_succ, List.getElem_cons_zero, List.setIfInBounds_toArray, List.set_cons_zero, List.set_cons_succ]
      refine wpAnyL_ready (rs := [10]) (by kernel_rfl) (by simp) ?_
      refine AllReadyL.cons rfl (fun K hK => ?_) AllReadyL.nil
      go_simp
      have BF9 : Hid (Blk (w8.setCell ⟨p, 1, none⟩ (.slice a8 n8 c8)) fb 65 #[.string (strOfNums f.name), .int .i64 f.num, .int .i64 f.kind, .int .i64 f.ref, .int .i64 f.lab, .int .i64 f.one, .int .i64 f.key]) := hid (K8.out.put _ _ _ (by have := HRU.out.blk.lt; omega) (by decide) (by decide) BFU.out)
      have BO9 : Hid (Blk (w8.setCell ⟨p, 1, none⟩ (.slice a8 n8 c8)) ob 33 #[.int .i64 x.num, .slice ka1 x.ks.length kc1, .slice va1 x.vs.length vc1]) := hid (K8.out.put _ _ _ (by omega) (by decide) (by decide) BOU.out)
      have HB9 : Hid (BK p V (w8.setCell ⟨p, 1, none⟩ (.slice a8 n8 c8))) := hid (HBU.out.trans K8.out.put)
      have hs9 : wd.heap.size ≤ (w8.setCell ⟨p, 1, none⟩ (.slice a8 n8 c8)).heap.size := by simp [World.setCell]; exact h8
      have HE9 := hid (Fam.go (famF d) HEU.out (keepW0 HRU.out.bel S8.out.bel hs9) (fun _ h => h) (fun _ h => h))
      refine hK.out _ _ (SL.late BF9.out.cellF (by kernel_rfl)) (fun hHeld => ?_)
      clear hK K
      try simp only [Act.put, List.getElem_toArray, List.getElem_cons_succ, List.getElem_cons_zero, List.setIfInBounds_toArray, List.set_cons_zero, List.set_cons_succ]
      clear x8 y8 z8 BF8 B8 R8 L8 h8 K8 HRU BFU BOU HBU HEU
      refine wpAnyL_done (by kernel_rfl) ?_ _
      generalize w8.setCell ⟨p, 1, none⟩ (.slice a8 n8 c8) = W9 at *
      have xf := BF9.out.cellF
      have zf := BF9.out.lt
      go_wp2_with fail
      refine (isWyT _ f).mono ?_
      rintro e w10 ⟨rfl, hb10⟩
      have S10 := hid (S8.out.kept hb10)
      have BF10 := hid (BF9.out.kept hb10)
      have BO10 := hid (BO9.out.kept hb10)
      have HB10 : Hid (BK p V w10) := hid (HB9.out.trans (BK.bel hb10))
      have HE10 := hid (Fam.go (famF d) HE9.out (keepT hb10) (fun _ _ => trivial) (fun _ h => h))
      have hs10 := hb10.size
      clear xf zf S8 BF9 BO9 HB9 HE9 hb10
      generalize hwy : isWyB f = wy at *
      cases wy with
      | false =>
        have HFX2 : Hid (F x = [ah ++ f.name]) := hid (by rw [HFX.out]; rfl)
        go_upto_region 10 with fail
        have HBP : Hid (∀ c ∈ ah ++ f.name, 0 ≤ c ∧ c ≤ 255) := hid (fun c hc => (List.mem_append.1 hc).elim (HAB.out c) (hTx.1 c))
        have HCV : Hid (∀ (W1 : World), W1.ownsRow (p + 1) 5 1 (.slice a8 n8 c8) (ah ++ f.name).length ((ah ++ f.name).map (Value.int .u8)) → (convert 36 9 (.slice a8 n8 c8)).run Tryz.prog W1 = .ok (.string (strOfNums (ah ++ f.name))) W1) := hid (fun W1 h1 => by
          obtain ⟨va, cap, e, hr⟩ := W.own_reads h1 HBP.out
          simp only [Value.slice.injEq] at e
          obtain ⟨rfl, -, rfl⟩ := e
          rw [HN8.out]
          exact W.conv hr)
        have SD := hid (S10.out.kept (below_drew1 w10))
        have BFd := hid (BF10.out.kept (below_drew1 w10))
        have HBd : Hid (BK p V w10.drew) := hid (HB10.out.trans (BK.bel (below_drew1 w10)))
        have hsd : w10.heap.size ≤ w10.drew.heap.size := (below_drew1 w10).size
        refine wp_regionL (S := SL (fun W1 => (convert 36 9 (.slice a8 n8 c8)).run Tryz.prog W1 = .ok (.string (strOfNums (ah ++ f.name))) W1) (fun W1 => ∀ k, W1.cell? ⟨p, k, none⟩ = #[.slice (some ⟨tb, tq, none⟩) l.length tc, .slice a8 n8 c8, pv'][k]?) 14) (by kernel_rfl) (SL.of (HCV.out _ SD.out.oa) SD.out.blk.cellF) (fun hHeld => ?_)
        clear S10 BF10 HB10
        generalize w10.drew = wd at *
        obtain ⟨aq, cq, w12, R12, B12, S12, L12, h12, K12, O12⟩ := SD.out.path hp (by have := hpl.out; omega)
        obtain ⟨ss, HSS⟩ : ∃ ss, Hid (strOfNums (ah ++ f.name) = ss) := ⟨_, hid rfl⟩
        rw [HSS.out] at R12 HCV hHeld ⊢
        have CV0 := HCV.out _ (SD.out.kept (below_alloc (w := wd) (.cells #[.string ss] 9))).oa
        have CV1 := HCV.out _ S12.out.oa
        have CV2 := HCV.out _ O12.out
        refine takeL0 0 (v := ?_) rfl (by kernel_rfl) (by kernel_rfl) (by kernel_rfl) (fun _ _ _ h => h) (by kernel_rfl) (Or.inl ⟨by rfl, ?_⟩) hHeld (fun hHeld => ?_)
        rotate_left
        · (intro w hSw; (try obtain ⟨hSw, hSx⟩ := hSw); (try dsimp only at hSw); (try dsimp only at hSx); (try obtain ⟨hSw, hSy⟩ := hSw); go_simp; (try with_reducible rfl))
        try simp only [Act.put, List.getElem_toArray, List.getElem_cons_succ, List.getElem_cons_zero, List.setIfInBounds_toArray, List.set_cons_zero, List.set_cons_succ]
        refine takeL0 1 (v := ?_) rfl (by kernel_rfl) (by kernel_rfl) (by kernel_rfl) (fun _ _ _ h => h) (by kernel_rfl) (Or.inl ⟨by rfl, ?_⟩) hHeld (fun hHeld => ?_)
        rotate_left
        · (intro w hSw; (try obtain ⟨hSw, hSx⟩ := hSw); (try dsimp only at hSw); (try dsimp only at hSx); (try obtain ⟨hSw, hSy⟩ := hSw); go_simp; (try with_reducible rfl))
        try simp only [Act.put, List.getElem_toArray, List.getElem_cons_succ, List.getElem_cons_zero, List.setIfInBounds_toArray, List.set_cons_zero, List.set_cons_succ]
        refine takeL0 2 (v := ?_) rfl (by kernel_rfl) (by kernel_rfl) (by kernel_rfl) (fun _ _ _ h => h) (by kernel_rfl) (Or.inl ⟨by rfl, ?_⟩) hHeld (fun hHeld => ?_)
        rotate_left
        · (intro w hSw; (try obtain ⟨hSw, hSx⟩ := hSw); (try dsimp only at hSw); (try dsimp only at hSx); (try obtain ⟨hSw, hSy⟩ := hSw); go_simp; (try with_reducible rfl))
        try simp only [Act.put, List.getElem_toArray, List.getElem_cons_succ, List.getElem_cons_zero, List.setIfInBounds_toArray, List.set_cons_zero, List.set_cons_succ]
        refine takeL0 3 (v := ?_) rfl (by kernel_rfl) (by kernel_rfl) (by kernel_rfl) (fun _ _ _ h => h) (by kernel_rfl) (Or.inl ⟨by rfl, ?_⟩) hHeld (fun hHeld => ?_)
        rotate_left
        · (intro w hSw; (try obtain ⟨hSw, hSx⟩ := hSw); (try dsimp only at hSw); (try dsimp only at hSx); (try obtain ⟨hSw, hSy⟩ := hSw); go_simp; (try with_reducible rfl))
        try simp only [Act.put, List.getElem_toArray, List.getElem_cons_succ, List.getElem_cons_zero, List.setIfInBounds_toArray, List.set_cons_zero, List.set_cons_succ]
        refine takeL1 4 (v := ?_) rfl rfl (by kernel_rfl) (by kernel_rfl) (by kernel_rfl) (by kernel_rfl) (by kernel_rfl) (fun _ _ _ h => h) (by kernel_rfl) (Or.inl ⟨by rfl, ?_⟩) hHeld (fun hHeld => ?_)
        rotate_left
        · (intro w hSw; (try obtain ⟨hSw, hSx⟩ := hSw); (try dsimp only at hSw); (try dsimp only at hSx); (try obtain ⟨hSw, hSy⟩ := hSw); go_simp; (try with_reducible rfl))
        try simp only [Act.put, List.getElem_toArray, List.getElem_cons_succ, List.getElem_cons_zero, List.setIfInBounds_toArray, List.set_cons_zero, List.set_cons_succ]
        refine takeL0 5 (v := ?_) rfl (by kernel_rfl) (by kernel_rfl) (by kernel_rfl) (fun _ _ _ h => h) (by kernel_rfl) (Or.inl ⟨by rfl, ?_⟩) hHeld (fun hHeld => ?_)
        rotate_left
        · (intro w hSw; (try obtain ⟨hSw, hSx⟩ := hSw); (try dsimp only at hSw); (try dsimp only at hSx); (try obtain ⟨hSw, hSy⟩ := hSw); go_simp; (try with_reducible rfl))
        try simp only [Act.put, List.getElem_toArray, List.getElem_cons_succ, List.getElem_cons_zero, List.setIfInBounds_toArray, List.set_cons_zero, List.set_cons_succ]
        refine takeL0 6 (v := ?_) rfl (by kernel_rfl) (by kernel_rfl) (by kernel_rfl) (fun _ _ _ h => h) (by kernel_rfl) (Or.inl ⟨by rfl, ?_⟩) hHeld (fun hHeld => ?_)
        rotate_left
        · (intro w hSw; (try obtain ⟨hSw, hSx⟩ := hSw); (try dsimp only at hSw); (try dsimp only at hSx); (try obtain ⟨hSw, hSy⟩ := hSw); go_simp; (try with_reducible rfl))
        try simp only [Act.put, List.getElem_toArray, List.getElem_cons_succ, List.getElem_cons_zero, List.setIfInBounds_toArray, List.set_cons_zero, List.set_cons_succ]
        refine takeL0 7 (v := ?_) rfl (by kernel_rfl) (by kernel_rfl) (by kernel_rfl) (fun _ _ _ h => h) (by kernel_rfl) (Or.inl ⟨by rfl, ?_⟩) hHeld (fun hHeld => ?_)
        rotate_left
        · (intro w hSw; (try obtain ⟨hSw, hSx⟩ := hSw); (try dsimp only at hSw); (try dsimp only at hSx); (try obtain ⟨hSw, hSy⟩ := hSw); go_simp; (try with_reducible rfl))
        try simp only [Act.put, List.getElem_toArray, List.getElem_cons_succ, List.getElem_cons_zero, List.setIfInBounds_toArray, List.set_cons_zero, List.set_cons_succ]
        refine takeL1 8 (v := ?_) rfl rfl (by kernel_rfl) (by kernel_rfl) (by kernel_rfl) (by kernel_rfl) (by kernel_rfl) (fun _ _ _ h => h) (by kernel_rfl) (Or.inl ⟨by rfl, ?_⟩) hHeld (fun hHeld => ?_)
        rotate_left
        · (intro w hSw; (try obtain ⟨hSw, hSx⟩ := hSw); (try dsimp only at hSw); (try dsimp only at hSx); (try obtain ⟨hSw, hSy⟩ := hSw); go_simp; (try with_reducible rfl))
        try simp only [Act.put, List.getElem_toArray, List.getElem_cons_succ, List.getElem_cons_zero, List.setIfInBounds_toArray, List.set_cons_zero, List.set_cons_succ]
        refine takeL0 9 (v := ?_) rfl (by kernel_rfl) (by kernel_rfl) (by kernel_rfl) (fun _ _ _ h => h) (by kernel_rfl) (Or.inl ⟨by rfl, ?_⟩) hHeld (fun hHeld => ?_)
        rotate_left
        · (intro w hSw; (try obtain ⟨hSw, hSx⟩ := hSw); (try dsimp only at hSw); (try dsimp only at hSx); (try obtain ⟨hSw, hSy⟩ := hSw); go_simp; (try with_reducible rfl))
        try simp only [Act.put, List.getElem_toArray, List.getElem_cons_succ, List.getElem_cons_zero, List.setIfInBounds_toArray, List.set_cons_zero, List.set_cons_succ]
        refine wpAnyL_ready (rs := [10]) (by kernel_rfl) (by simp) ?_
        refine AllReadyL.cons rfl (fun K hK => ?_) AllReadyL.nil
        go_simp
        refine hK.out _ _ (SL.of CV0 (SD.out.kept (below_alloc _)).blk.cellF) (fun hHeld => ?_)
        clear hK K
        try simp only [Act.put, List.getElem_toArray, List.getElem_cons_succ, List.getElem_cons_zero, List.setIfInBounds_toArray, List.set_cons_zero, List.set_cons_succ]
        refine wpAnyL_ready (rs := [11]) (by kernel_rfl) (by simp) ?_
        refine AllReadyL.cons rfl (fun K hK => ?_) AllReadyL.nil
        refine step_append_tu rfl _ _ 52 52 52 rfl rfl _ _ (.slice aq (pj.length + 1) cq) w12 rfl rfl R12.out ?_
        refine hK.out _ _ (SL.of CV2 B12.out.cellF) (fun hHeld => ?_)
        clear hK K
        try simp only [Act.put, List.getElem_toArray, List.getElem_cons_succ, List.getElem_cons_zero, List.setIfInBounds_toArray, List.set_cons_zero, List.set_cons_succ]
        have y8 := B12.out.frz
        have z8 := B12.out.lt
        have x8 := B12.out.cellF
        refine takeL0 12 (v := ?_) rfl (by kernel_rfl) (by kernel_rfl) (by kernel_rfl) (fun _ _ _ h => h) (by kernel_rfl) (Or.inl ⟨by rfl, ?_⟩) hHeld (fun hHeld => ?_)
        rotate_left
        · (intro w hSw; (try obtain ⟨hSw, hSx⟩ := hSw); (try dsimp only at hSw); (try dsimp only at hSx); (try obtain ⟨hSw, hSy⟩ := hSw); go_simp; (try with_reducible rfl))
        try simp only [Act.put, List.getElem_toArray, List.getElem_cons_succ, List.getElem_cons_zero, List.setIfInBounds_toArray, List.set_cons_zero, List.set_cons_succ]
        refine takeL0 13 (v := ?_) rfl (by kernel_rfl) (by kernel_rfl) (by kernel_rfl) (fun _ _ _ h => h) (by kernel_rfl) (Or.inl ⟨by rfl, ?_⟩) hHeld (fun hHeld => ?_)
        rotate_left
        · (intro w hSw; (try obtain ⟨hSw, hSx⟩ := hSw); (try dsimp only at hSw); (try dsimp only at hSx); (try obtain ⟨hSw, hSy⟩ := hSw); go_simp; (try with_reducible rfl))
        try simp only [Act.put, List.getElem_toArray, List.getElem_cons_succ, List.getElem_cons_zero, List.setIfInBounds_toArray, List.set_cons_zero, List.set_cons_succ]
        refine wpAnyL_ready (rs := [14]) (by kernel_rfl) (by simp) ?_
        refine AllReadyL.cons rfl (fun K hK => ?_) AllReadyL.nil
        go_simp
        refine hK.out _ _ (SL.late CV1 (by kernel_rfl)) (fun hHeld => ?_)
        clear hK K
        try simp only [Act.put, List.getElem_toArray, List.getElem_cons_succ, List.getElem_cons_zero, List.setIfInBounds_toArray, List.set_cons_zero, List.set_cons_succ]
        refine wpAnyL_done (by kernel_rfl) ?_ _
        clear x8 y8 z8 CV0 CV1 CV2 R12 B12 L12
        have HBt : Hid (BK p V (w12.setCell ⟨p, 2, none⟩ (.slice aq (pj.length + 1) cq))) := hid (HBd.out.trans K12.out.put)
        have hst : V.heap.size ≤ (w12.setCell ⟨p, 2, none⟩ (.slice aq (pj.length + 1) cq)).heap.size := by have := BFd.out.lt; simp [World.setCell]; omega
        have HSt : Hid (LsS W0 p (.slice (some ⟨tb, tq, none⟩) l.length tc) (w12.setCell ⟨p, 2, none⟩ (.slice aq (pj.length + 1) cq)) (.slice a8 n8 c8) (.slice aq (pj.length + 1) cq) (ah ++ f.name) (ps ++ (m.fs.take (j + 1)).flatMap F)) := hid (by rw [← HPJ.out, HFX2.out]; exact S12.out)
        generalize w12.setCell ⟨p, 2, none⟩ (.slice aq (pj.length + 1) cq) = Wt at *
        have hcut := hid (HSt.out.cut hp (k := ah.length) rfl)
        have xt := HSt.out.blk.cellF
        have yt := HSt.out.blk.frz
        have zt := HSt.out.blk.lt
        have hnc : (n8 : Int) ≤ (c8 : Int) := by have := own_capP HSt.out.oa; omega
        have hn8 : (ah.length : Int) ≤ (n8 : Int) := by rw [HN8.out, List.length_append]; omega
        have hc63 : (c8 : Int) ≤ 9223372036854775807 := by have := own_capM HSt.out.oa; omega
        go_wp2
        exact ⟨⟨j + 1, _, _, by simp, by omega, hcut, hid HBt.out.put, by simp [World.setCell]; omega⟩, by simp [numAt]; omega⟩
      | true =>
        obtain ⟨⟨v0, vs0, z, zs0, ev0, ez0⟩, k2, hk2, ek2, hq2⟩ := HQJ.out.2 rfl
        have ewt : wthM x = z := by unfold wthM; rw [ev0]; dsimp only; rw [ez0]
        have HWT := hid fun (W1 : World) (hW : Below w10.heap.size w10 W1) => withinT d W1 (· < W0.heap.size) [.int .i64 x.num, .slice ka1 x.ks.length kc1, .slice va1 x.vs.length vc1] x (Fam.go (famF d) HE10.out (keepT hW) (fun _ _ => trivial) (fun _ h => h)) v0 vs0 ev0 z zs0 ez0
        rw [ewt] at HFX hq2
        replace ek2 := hid ek2
        have HQ2 := hid hq2
        have HEV := hid ev0
        have HEZ := hid ez0
        clear ev0 ez0 ewt hq2
        have xo := BO10.out.cellF
        have zo := BO10.out.lt
        go_wp2_with fail
        refine (HWT.out _ (Below.refl _ _)).mono ?_
        rintro e w11 ⟨ds, rfl, hds, hb11⟩
        have z63 : (z.fs.length : Int) ≤ 4000000 := by
          cases d with
          | zero => exact hds.elim
          | succ d =>
            obtain ⟨_, _, _, _, _, _, _, h8, _⟩ := msg_open hds
            omega
        obtain ⟨za, zc, zu, zuc, rfl, -⟩ := msg_openD hds
        have S10b := hid S10.out.bel
        have S11 := hid (S10.out.kept hb11)
        have BF11 := hid (BF10.out.kept hb11)
        have BO11 := hid (BO10.out.kept hb11)
        have HB11 : Hid (BK p V w11) := hid (HB10.out.trans (BK.bel hb11))
        have hs11 := hb11.size
        replace hb11 := hid hb11
        clear xo zo S10 BF10 BO10 HB10 hds
        have HFR := fieldRunP (.slice za z.fs.length zc) (.slice zu z.us.length zuc) w11 rfl
        by_cases hz0 : 0 < z.fs.length
        · have hz1 : (0 : Int) < (z.fs.length : Int) := by omega
          obtain ⟨aq, cq, w12, R12, B12, S12, L12, h12, K12⟩ := S11.out.dot hp (by have := HN1.out; rw [Nat.add_mul] at this; rw [List.length_append]; omega)
          obtain ⟨nq, HNQ⟩ : ∃ nq, Hid (nq = (ah ++ f.name ++ [46]).length) := ⟨_, hid rfl⟩
          rw [← HNQ.out] at R12 S12
          have x11 := S11.out.blk.cellF
          have z11 := S11.out.blk.lt
          have y8 := B12.out.frz
          have z8 := B12.out.lt
          have x8 := B12.out.cellF
          have hs12 : w11.heap.size ≤ (w12.setCell ⟨p, 1, none⟩ (.slice aq nq cq)).heap.size := by simp [World.setCell]; exact h12
          have BF12 : Hid (Blk (w12.setCell ⟨p, 1, none⟩ (.slice aq nq cq)) fb 65 #[.string (strOfNums f.name), .int .i64 f.num, .int .i64 f.kind, .int .i64 f.ref, .int .i64 f.lab, .int .i64 f.one, .int .i64 f.key]) := hid (K12.out.put _ _ _ (by have := S11.out.blk.lt; omega) (by decide) (by decide) BF11.out)
          have BO12 : Hid (Blk (w12.setCell ⟨p, 1, none⟩ (.slice aq nq cq)) ob 33 #[.int .i64 x.num, .slice ka1 x.ks.length kc1, .slice va1 x.vs.length vc1]) := hid (K12.out.put _ _ _ (by omega) (by decide) (by decide) BO11.out)
          have HB12 : Hid (BK p V (w12.setCell ⟨p, 1, none⟩ (.slice aq nq cq))) := hid (HB11.out.trans K12.out.put)
          have HE12 := hid (Fam.go (famF d) HE10.out ((keepW0 S10b.out S12.out.bel (by omega))) (fun _ h => h) (fun _ h => h))
          go_upto_region 9 with (first | (at_builtin; refine wpList_append_ran rfl _ _ 36 36 rfl rfl (.slice a8 n8 c8) (.slice (some ⟨w11.heap.size, 0, none⟩) 1 1) (.slice aq nq cq) w12 rfl rfl R12.out ?_) | fail)
          clear R12 B12 L12 K12 x11 z11 x8 y8 z8 S11 BF11 BO11 HB11 HE10 h12
          generalize w12.setCell ⟨p, 1, none⟩ (.slice aq nq cq) = W3 at *
          obtain ⟨b1', c1', b2', c2', b3', c3', b4', c4', f1', f2', f3', f4'⟩ := shT_of (hT.ty l[k2] (List.getElem_mem hk2))
          have ec2 : cTV l[k2] = [.string (strOfNums l[k2].t.name), .bool l[k2].t.enum, .slice b1' l[k2].t.fs.length c1', .slice b2' l[k2].t.os.length c2', .slice b3' l[k2].t.ss.length c3', .slice b4' l[k2].t.rs.length c4'] := by unfold cTV; rw [f1', f2', f3', f4']
          have HTC2 := hid (HTC.out k2 hk2)
          rw [ec2] at HTC2
          have hfa : fsAt l f.ref = l[k2].t.fs := by unfold fsAt; rw [ek2.out, Int.toNat_natCast, List.getElem?_eq_getElem hk2]; rfl
          have HFX2 : Hid (F x = ptM l d l[k2].t.fs (ah ++ f.name ++ [46]) z) := hid (by rw [HFX.out, decide_eq_true hz0, hfa]; rfl)
          have HLS := hid fun (W1 : World) (es : List Value) (avx : Value) (hm : MsgE W1 (· < W0.heap.size) d es z) (hs : LsS W0 p (.slice (some ⟨tb, tq, none⟩) l.length tc) W1 avx pv' (ah ++ f.name ++ [46]) pj) => HIH.out W1 k2 hk2 es z (ah ++ f.name ++ [46]) pj avx pv' hm HQ2.out hs (fun c hc => (List.mem_append.1 hc).elim (fun h => (List.mem_append.1 h).elim (HAB.out c) (hTx.1 c)) (fun h => by simp at h; omega)) (by have := HN1.out; rw [Nat.add_mul] at this; simp only [List.length_append, List.length_cons, List.length_nil]; omega) (by have := hpl.out; rw [HFX2.out] at this; exact this)
          rw [ec2] at HLS
          rw [← HFX2.out] at HLS
          have eref := ek2.out
          have k64 : (k2 : Int) < (l.length : Int) := by omega
          generalize f.ref = fref at *
          subst eref
          generalize l[k2].t.name = tn1 at *
          generalize l[k2].t.enum = tn2 at *
          generalize l[k2].t.fs.length = tn3 at *
          generalize l[k2].t.os.length = tn4 at *
          generalize l[k2].t.ss.length = tn5 at *
          generalize l[k2].t.rs.length = tn6 at *
          have HTW := hid fun (W1 : World) (hW : Below W0.heap.size W0 W1) (i : Nat) (u : Value) (hu : #[.string (strOfNums tn1), .bool tn2, .slice b1' tn3 c1', .slice b2' tn4 c2', .slice b3' tn5 c3', .slice b4' tn6 c4'][i]? = some u) => cell_below (HTC2.out i u (by simpa using hu)) hW
          have HS0 : Hid (∀ W1, Below W0.heap.size W0 W1 → (W1.cell? ⟨tb, tq + k2 * 6, none⟩ = some (.string (strOfNums tn1)) ∧ W1.cell? ⟨tb, tq + k2 * 6 + 1, none⟩ = some (.bool tn2) ∧ W1.cell? ⟨tb, tq + k2 * 6 + 2, none⟩ = some (.slice b1' tn3 c1') ∧ W1.cell? ⟨tb, tq + k2 * 6 + 3, none⟩ = some (.slice b2' tn4 c2') ∧ W1.cell? ⟨tb, tq + k2 * 6 + 4, none⟩ = some (.slice b3' tn5 c3') ∧ W1.cell? ⟨tb, tq + k2 * 6 + 5, none⟩ = some (.slice b4' tn6 c4'))) := hid (fun W1 hW => ⟨HTW.out W1 hW 0 _ rfl, HTW.out W1 hW 1 _ rfl, HTW.out W1 hW 2 _ rfl, HTW.out W1 hW 3 _ rfl, HTW.out W1 hW 4 _ rfl, HTW.out W1 hW 5 _ rfl⟩)
          clear HTC2 HTW ec2 hfa f1' f2' f3' f4' HFX ek2
          have HSK : Hid (∀ W1, Below W3.heap.size W3 W1 → (fun W1 => ((∀ k, W1.cell? ⟨fb, k, none⟩ = #[.string (strOfNums f.name), .int .i64 f.num, .int .i64 f.kind, .int .i64 (k2 : Int), .int .i64 f.lab, .int .i64 f.one, .int .i64 f.key][k]?) ∧ (∀ k, W1.cell? ⟨ob, k, none⟩ = #[.int .i64 x.num, .slice ka1 x.ks.length kc1, .slice va1 x.vs.length vc1][k]?)) ∧ (W1.cell? ⟨p, 0, none⟩ = some (.slice (some ⟨tb, tq, none⟩) l.length tc) ∧ W1.cell? ⟨tb, tq + k2 * 6, none⟩ = some (.string (strOfNums tn1)) ∧ W1.cell? ⟨tb, tq + k2 * 6 + 1, none⟩ = some (.bool tn2) ∧ W1.cell? ⟨tb, tq + k2 * 6 + 2, none⟩ = some (.slice b1' tn3 c1') ∧ W1.cell? ⟨tb, tq + k2 * 6 + 3, none⟩ = some (.slice b2' tn4 c2') ∧ W1.cell? ⟨tb, tq + k2 * 6 + 4, none⟩ = some (.slice b3' tn5 c3') ∧ W1.cell? ⟨tb, tq + k2 * 6 + 5, none⟩ = some (.slice b4' tn6 c4'))) W1 ∧ (fun _ => True) W1) := hid (fun W1 hW => ⟨⟨⟨(BF12.out.kept hW).cellF, (BO12.out.kept hW).cellF⟩, (S12.out.kept hW).blk.cell 0 _ rfl, HS0.out W1 (bl_then S12.out.bel hW)⟩, trivial⟩)
          refine wp_regionL (S := SL (fun W1 => ((∀ k, W1.cell? ⟨fb, k, none⟩ = #[.string (strOfNums f.name), .int .i64 f.num, .int .i64 f.kind, .int .i64 (k2 : Int), .int .i64 f.lab, .int .i64 f.one, .int .i64 f.key][k]?) ∧ (∀ k, W1.cell? ⟨ob, k, none⟩ = #[.int .i64 x.num, .slice ka1 x.ks.length kc1, .slice va1 x.vs.length vc1][k]?)) ∧ (W1.cell? ⟨p, 0, none⟩ = some (.slice (some ⟨tb, tq, none⟩) l.length tc) ∧ W1.cell? ⟨tb, tq + k2 * 6, none⟩ = some (.string (strOfNums tn1)) ∧ W1.cell? ⟨tb, tq + k2 * 6 + 1, none⟩ = some (.bool tn2) ∧ W1.cell? ⟨tb, tq + k2 * 6 + 2, none⟩ = some (.slice b1' tn3 c1') ∧ W1.cell? ⟨tb, tq + k2 * 6 + 3, none⟩ = some (.slice b2' tn4 c2') ∧ W1.cell? ⟨tb, tq + k2 * 6 + 4, none⟩ = some (.slice b3' tn5 c3') ∧ W1.cell? ⟨tb, tq + k2 * 6 + 5, none⟩ = some (.slice b4' tn6 c4'))) (fun _ => True) 11) (by kernel_rfl) (SL.of (HSK.out _ (below_drew1 W3)).1 (HSK.out _ (below_drew1 W3)).2) (fun hHeld => ?_)
          refine takeL0 0 (v := ?_) rfl (by kernel_rfl) (by kernel_rfl) (by kernel_rfl) (fun _ _ _ h => h) (by kernel_rfl) (Or.inl ⟨by rfl, ?_⟩) hHeld (fun hHeld => ?_)
          rotate_left
          · (intro w hSw; (try obtain ⟨hSw, hSx⟩ := hSw); (try dsimp only at hSw); (try dsimp only at hSx); (try obtain ⟨hSw, hSy⟩ := hSw); go_simp; (try with_reducible rfl))
          try simp only [Act.put, List.getElem_toArray, List.getElem_cons_succ, List.getElem_cons_zero, List.setIfInBounds_toArray, List.set_cons_zero, List.set_cons_succ]
          refine takeL0 1 (v := ?_) rfl (by kernel_rfl) (by kernel_rfl) (by kernel_rfl) (fun _ _ _ h => h) (by kernel_rfl) (Or.inl ⟨by rfl, ?_⟩) hHeld (fun hHeld => ?_)
          rotate_left
          · (intro w hSw; (try obtain ⟨hSw, hSx⟩ := hSw); (try dsimp only at hSw); (try dsimp only at hSx); (try obtain ⟨hSw, hSy⟩ := hSw); go_simp; (try with_reducible rfl))
          try simp only [Act.put, List.getElem_toArray, List.getElem_cons_succ, List.getElem_cons_zero, List.setIfInBounds_toArray, List.set_cons_zero, List.set_cons_succ]
          refine takeL0 2 (v := ?_) rfl (by kernel_rfl) (by kernel_rfl) (by kernel_rfl) (fun _ _ _ h => h) (by kernel_rfl) (Or.inl ⟨by rfl, ?_⟩) hHeld (fun hHeld => ?_)
          rotate_left
          · (intro w hSw; (try obtain ⟨hSw, hSx⟩ := hSw); (try dsimp only at hSw); (try dsimp only at hSx); (try obtain ⟨hSw, hSy⟩ := hSw); go_simp; (try with_reducible rfl))
          try simp only [Act.put, List.getElem_toArray, List.getElem_cons_succ, List.getElem_cons_zero, List.setIfInBounds_toArray, List.set_cons_zero, List.set_cons_succ]
          refine takeL0 3 (v := ?_) rfl (by kernel_rfl) (by kernel_rfl) (by kernel_rfl) (fun _ _ _ h => h) (by kernel_rfl) (Or.inl ⟨by rfl, ?_⟩) hHeld (fun hHeld => ?_)
          rotate_left
          · (intro w hSw; (try obtain ⟨hSw, hSx⟩ := hSw); (try dsimp only at hSw); (try dsimp only at hSx); (try obtain ⟨hSw, hSy⟩ := hSw); go_simp; (try with_reducible rfl))
          try simp only [Act.put, List.getElem_toArray, List.getElem_cons_succ, List.getElem_cons_zero, List.setIfInBounds_toArray, List.set_cons_zero, List.set_cons_succ]
          refine takeL0 4 (v := ?_) rfl (by kernel_rfl) (by kernel_rfl) (by kernel_rfl) (fun _ _ _ h => h) (by kernel_rfl) (Or.inl ⟨by rfl, ?_⟩) hHeld (fun hHeld => ?_)
          rotate_left
          · (intro w hSw; (try obtain ⟨hSw, hSx⟩ := hSw); (try dsimp only at hSw); (try dsimp only at hSx); (try obtain ⟨hSw, hSy⟩ := hSw); go_simp; (try with_reducible rfl))
          try simp only [Act.put, List.getElem_toArray, List.getElem_cons_succ, List.getElem_cons_zero, List.setIfInBounds_toArray, List.set_cons_zero, List.set_cons_succ]
          refine takeL0 5 (v := ?_) rfl (by kernel_rfl) (by kernel_rfl) (by kernel_rfl) (fun _ _ _ h => h) (by kernel_rfl) (Or.inl ⟨by rfl, ?_⟩) hHeld (fun hHeld => ?_)
          rotate_left
          · (intro w hSw; (try obtain ⟨hSw, hSx⟩ := hSw); (try dsimp only at hSw); (try dsimp only at hSx); (try obtain ⟨hSw, hSy⟩ := hSw); go_simp; (try with_reducible rfl))
          try simp only [Act.put, List.getElem_toArray, List.getElem_cons_succ, List.getElem_cons_zero, List.setIfInBounds_toArray, List.set_cons_zero, List.set_cons_succ]
          refine takeL0 6 (v := ?_) rfl (by kernel_rfl) (by kernel_rfl) (by kernel_rfl) (fun _ _ _ h => h) (by kernel_rfl) (Or.inl ⟨by rfl, ?_⟩) hHeld (fun hHeld => ?_)
          rotate_left
          · (intro w hSw; (try obtain ⟨hSw, hSx⟩ := hSw); (try dsimp only at hSw); (try dsimp only at hSx); (try obtain ⟨hSw, hSy⟩ := hSw); go_simp; (try with_reducible rfl))
          try simp only [Act.put, List.getElem_toArray, List.getElem_cons_succ, List.getElem_cons_zero, List.setIfInBounds_toArray, List.set_cons_zero, List.set_cons_succ]
          refine takeL0 7 (v := ?_) rfl (by kernel_rfl) (by kernel_rfl) (by kernel_rfl) (fun _ _ _ h => h) (by kernel_rfl) (Or.inl ⟨by rfl, ?_⟩) hHeld (fun hHeld => ?_)
          rotate_left
          · (intro w hSw; (try obtain ⟨hSw, hSx⟩ := hSw); (try dsimp only at hSw); (try dsimp only at hSx); (try obtain ⟨hSw, hSy⟩ := hSw); go_simp; (try with_reducible rfl))
          try simp only [Act.put, List.getElem_toArray, List.getElem_cons_succ, List.getElem_cons_zero, List.setIfInBounds_toArray, List.set_cons_zero, List.set_cons_succ]
          refine takeL0 8 (v := ?_) rfl (by kernel_rfl) (by kernel_rfl) (by kernel_rfl) (fun _ _ _ h => h) (by kernel_rfl) (Or.inl ⟨by rfl, ?_⟩) hHeld (fun hHeld => ?_)
          rotate_left
          · (intro w hSw; (try obtain ⟨hSw, hSx⟩ := hSw); (try dsimp only at hSw); (try dsimp only at hSx); (try obtain ⟨hSw, hSy⟩ := hSw); go_simp; (try with_reducible rfl))
          try simp only [Act.put, List.getElem_toArray, List.getElem_cons_succ, List.getElem_cons_zero, List.setIfInBounds_toArray, List.set_cons_zero, List.set_cons_succ]
          refine takeL0 9 (v := ?_) rfl (by kernel_rfl) (by kernel_rfl) (by kernel_rfl) (fun _ _ _ h => h) (by kernel_rfl) (Or.inl ⟨by rfl, ?_⟩) hHeld (fun hHeld => ?_)
          rotate_left
          · (intro w hSw; (try obtain ⟨hSw, hSx⟩ := hSw); (try dsimp only at hSw); (try dsimp only at hSx); (try obtain ⟨hSw, hSy⟩ := hSw); go_simp; (try with_reducible rfl))
          try simp only [Act.put, List.getElem_toArray, List.getElem_cons_succ, List.getElem_cons_zero, List.setIfInBounds_toArray, List.set_cons_zero, List.set_cons_succ]
          refine wpAnyL_ready (rs := [10]) (by kernel_rfl) (by simp) ?_
          refine AllReadyL.cons rfl (fun K hK => ?_) AllReadyL.nil
          have HW4 := hid (withinT d W3.drew (· < W0.heap.size) [.int .i64 x.num, .slice ka1 x.ks.length kc1, .slice va1 x.vs.length vc1] x (Fam.go (famF d) HE12.out (keepT (below_drew1 W3)) (fun _ _ => trivial) (fun _ h => h)) v0 vs0 HEV.out z zs0 HEZ.out)
          go_wp2_with (go_at_call 44; refine HW4.out.mono ?_; rintro e w14 ⟨es, rfl, hes, hb14⟩)
          replace hb14 : Hid (Below W3.heap.size W3 w14) := hid (below_trans (below_drew1 _) hb14)
          obtain ⟨ya, yc, yu, yuc, rfl, -⟩ := msg_openD hes
          have HES := hid hes
          clear hes
          refine hK.out _ _ (SL.of (HSK.out _ hb14.out).1 trivial) (fun hHeld => ?_)
          clear hK K
          try simp only [Act.put, List.getElem_toArray, List.getElem_cons_succ, List.getElem_cons_zero, List.setIfInBounds_toArray, List.set_cons_zero, List.set_cons_succ]
          refine wpAnyL_ready (rs := [11]) (by kernel_rfl) (by simp) ?_
          refine AllReadyL.cons rfl (fun K hK => ?_) AllReadyL.nil
          have S14 := hid (S12.out.kept hb14.out)
          have HL4 := hid (HLS.out w14 [.slice ya z.fs.length yc, .slice yu z.us.length yuc] _ HES.out S14.out)
          go_simp
          refine HL4.out.mono ?_
          rintro e w15 ⟨rfl, av5, pv5, hS5, hs15, hK5⟩
          dsimp only
          have BF15 := hid (hK5 _ _ _ (by have := S14.out.blk.lt; omega) (by decide) (by decide) (BF12.out.kept hb14.out))
          have BO15 := hid (hK5 _ _ _ (by omega) (by decide) (by decide) (BO12.out.kept hb14.out))
          refine hK.out _ _ (SL.late ⟨⟨BF15.out.cellF, BO15.out.cellF⟩, hS5.blk.cell 0 _ rfl, HS0.out _ hS5.bel⟩ (by kernel_rfl)) (fun hHeld => ?_)
          clear hK K
          try simp only [Act.put, List.getElem_toArray, List.getElem_cons_succ, List.getElem_cons_zero, List.setIfInBounds_toArray, List.set_cons_zero, List.set_cons_succ]
          refine wpAnyL_done (by kernel_rfl) ?_ _
          obtain ⟨a5, n5, c5, rfl⟩ : ∃ a n c, av5 = .slice a n c := by obtain ⟨a, c, e⟩ := own_shape hS5.oa; exact ⟨a, _, c, e⟩
          have HBt : Hid (BK p V w15) := hid ((HB12.out.trans (BK.bel hb14.out)).trans hK5)
          have hst : V.heap.size ≤ w15.heap.size := by have := BF12.out.lt; have := hb14.out.size; omega
          have HSt : Hid (LsS W0 p (.slice (some ⟨tb, tq, none⟩) l.length tc) w15 (.slice a5 n5 c5) pv5 (ah ++ (f.name ++ [46])) (ps ++ (m.fs.take (j + 1)).flatMap F)) := hid (by rw [← HPJ.out, ← List.append_assoc]; exact hS5)
          clear hS5 hK5 S14 HL4 HES hb14 HSK HS0 BF15 BO15 BF12 BO12 HB12 HE12 S12
          have hcut := hid (HSt.out.cut hp (k := ah.length) rfl)
          have xt := HSt.out.blk.cellF
          have yt := HSt.out.blk.frz
          have zt := HSt.out.blk.lt
          have hnc : (n5 : Int) ≤ (c5 : Int) := by have := own_capP HSt.out.oa; omega
          have hn8 : (ah.length : Int) ≤ (n5 : Int) := by have := own_lenP HSt.out.oa; rw [List.length_append] at this; omega
          have hc63 : (c5 : Int) ≤ 9223372036854775807 := by have := own_capM HSt.out.oa; omega
          go_wp2
          exact ⟨⟨j + 1, _, _, by simp, by omega, hcut, hid HBt.out.put, by simp [World.setCell]; omega⟩, by simp [numAt]; omega⟩
        · have hz1 : ¬ (0 : Int) < (z.fs.length : Int) := by omega
          have HFX2 : Hid (F x = [ah ++ f.name]) := hid (by rw [HFX.out, decide_eq_false hz0]; rfl)
          go_upto_region 10 with fail
          have HBP : Hid (∀ c ∈ ah ++ f.name, 0 ≤ c ∧ c ≤ 255) := hid (fun c hc => (List.mem_append.1 hc).elim (HAB.out c) (hTx.1 c))
          have HCV : Hid (∀ (W1 : World), W1.ownsRow (p + 1) 5 1 (.slice a8 n8 c8) (ah ++ f.name).length ((ah ++ f.name).map (Value.int .u8)) → (convert 36 9 (.slice a8 n8 c8)).run Tryz.prog W1 = .ok (.string (strOfNums (ah ++ f.name))) W1) := hid (fun W1 h1 => by
            obtain ⟨va, cap, e, hr⟩ := W.own_reads h1 HBP.out
            simp only [Value.slice.injEq] at e
            obtain ⟨rfl, -, rfl⟩ := e
            rw [HN8.out]
            exact W.conv hr)
          have SD := hid (S11.out.kept (below_drew1 w11))
          have BFd := hid (BF11.out.kept (below_drew1 w11))
          have HBd : Hid (BK p V w11.drew) := hid (HB11.out.trans (BK.bel (below_drew1 w11)))
          have hsd : w11.heap.size ≤ w11.drew.heap.size := (below_drew1 w11).size
          refine wp_regionL (S := SL (fun W1 => (convert 36 9 (.slice a8 n8 c8)).run Tryz.prog W1 = .ok (.string (strOfNums (ah ++ f.name))) W1) (fun W1 => ∀ k, W1.cell? ⟨p, k, none⟩ = #[.slice (some ⟨tb, tq, none⟩) l.length tc, .slice a8 n8 c8, pv'][k]?) 14) (by kernel_rfl) (SL.of (HCV.out _ SD.out.oa) SD.out.blk.cellF) (fun hHeld => ?_)
          clear S11 BF11 HB11
          generalize w11.drew = wd at *
          obtain ⟨aq, cq, w12, R12, B12, S12, L12, h12, K12, O12⟩ := SD.out.path hp (by have := hpl.out; omega)
          obtain ⟨ss, HSS⟩ : ∃ ss, Hid (strOfNums (ah ++ f.name) = ss) := ⟨_, hid rfl⟩
          rw [HSS.out] at R12 HCV hHeld ⊢
          have CV0 := HCV.out _ (SD.out.kept (below_alloc (w := wd) (.cells #[.string ss] 9))).oa
          have CV1 := HCV.out _ S12.out.oa
          have CV2 := HCV.out _ O12.out
          refine takeL0 0 (v := ?_) rfl (by kernel_rfl) (by kernel_rfl) (by kernel_rfl) (fun _ _ _ h => h) (by kernel_rfl) (Or.inl ⟨by rfl, ?_⟩) hHeld (fun hHeld => ?_)
          rotate_left
          · (intro w hSw; (try obtain ⟨hSw, hSx⟩ := hSw); (try dsimp only at hSw); (try dsimp only at hSx); (try obtain ⟨hSw, hSy⟩ := hSw); go_simp; (try with_reducible rfl))
          try simp only [Act.put, List.getElem_toArray, List.getElem_cons_succ, List.getElem_cons_zero, List.setIfInBounds_toArray, List.set_cons_zero, List.set_cons_succ]
          refine takeL0 1 (v := ?_) rfl (by kernel_rfl) (by kernel_rfl) (by kernel_rfl) (fun _ _ _ h => h) (by kernel_rfl) (Or.inl ⟨by rfl, ?_⟩) hHeld (fun hHeld => ?_)
          rotate_left
          · (intro w hSw; (try obtain ⟨hSw, hSx⟩ := hSw); (try dsimp only at hSw); (try dsimp only at hSx); (try obtain ⟨hSw, hSy⟩ := hSw); go_simp; (try with_reducible rfl))
          try simp only [Act.put, List.getElem_toArray, List.getElem_cons_succ, List.getElem_cons_zero, List.setIfInBounds_toArray, List.set_cons_zero, List.set_cons_succ]
          refine takeL0 2 (v := ?_) rfl (by kernel_rfl) (by kernel_rfl) (by kernel_rfl) (fun _ _ _ h => h) (by kernel_rfl) (Or.inl ⟨by rfl, ?_⟩) hHeld (fun hHeld => ?_)
          rotate_left
          · (intro w hSw; (try obtain ⟨hSw, hSx⟩ := hSw); (try dsimp only at hSw); (try dsimp only at hSx); (try obtain ⟨hSw, hSy⟩ := hSw); go_simp; (try with_reducible rfl))
          try simp only [Act.put, List.getElem_toArray, List.getElem_cons_succ, List.getElem_cons_zero, List.setIfInBounds_toArray, List.set_cons_zero, List.set_cons_succ]
          refine takeL0 3 (v := ?_) rfl (by kernel_rfl) (by kernel_rfl) (by kernel_rfl) (fun _ _ _ h => h) (by kernel_rfl) (Or.inl ⟨by rfl, ?_⟩) hHeld (fun hHeld => ?_)
          rotate_left
          · (intro w hSw; (try obtain ⟨hSw, hSx⟩ := hSw); (try dsimp only at hSw); (try dsimp only at hSx); (try obtain ⟨hSw, hSy⟩ := hSw); go_simp; (try with_reducible rfl))
          try simp only [Act.put, List.getElem_toArray, List.getElem_cons_succ, List.getElem_cons_zero, List.setIfInBounds_toArray, List.set_cons_zero, List.set_cons_succ]
          refine takeL1 4 (v := ?_) rfl rfl (by kernel_rfl) (by kernel_rfl) (by kernel_rfl) (by kernel_rfl) (by kernel_rfl) (fun _ _ _ h => h) (by kernel_rfl) (Or.inl ⟨by rfl, ?_⟩) hHeld (fun hHeld => ?_)
          rotate_left
          · (intro w hSw; (try obtain ⟨hSw, hSx⟩ := hSw); (try dsimp only at hSw); (try dsimp only at hSx); (try obtain ⟨hSw, hSy⟩ := hSw); go_simp; (try with_reducible rfl))
          try simp only [Act.put, List.getElem_toArray, List.getElem_cons_succ, List.getElem_cons_zero, List.setIfInBounds_toArray, List.set_cons_zero, List.set_cons_succ]
          refine takeL0 5 (v := ?_) rfl (by kernel_rfl) (by kernel_rfl) (by kernel_rfl) (fun _ _ _ h => h) (by kernel_rfl) (Or.inl ⟨by rfl, ?_⟩) hHeld (fun hHeld => ?_)
          rotate_left
          · (intro w hSw; (try obtain ⟨hSw, hSx⟩ := hSw); (try dsimp only at hSw); (try dsimp only at hSx); (try obtain ⟨hSw, hSy⟩ := hSw); go_simp; (try with_reducible rfl))
          try simp only [Act.put, List.getElem_toArray, List.getElem_cons_succ, List.getElem_cons_zero, List.setIfInBounds_toArray, List.set_cons_zero, List.set_cons_succ]
          refine takeL0 6 (v := ?_) rfl (by kernel_rfl) (by kernel_rfl) (by kernel_rfl) (fun _ _ _ h => h) (by kernel_rfl) (Or.inl ⟨by rfl, ?_⟩) hHeld (fun hHeld => ?_)
          rotate_left
          · (intro w hSw; (try obtain ⟨hSw, hSx⟩ := hSw); (try dsimp only at hSw); (try dsimp only at hSx); (try obtain ⟨hSw, hSy⟩ := hSw); go_simp; (try with_reducible rfl))
          try simp only [Act.put, List.getElem_toArray, List.getElem_cons_succ, List.getElem_cons_zero, List.setIfInBounds_toArray, List.set_cons_zero, List.set_cons_succ]
          refine takeL0 7 (v := ?_) rfl (by kernel_rfl) (by kernel_rfl) (by kernel_rfl) (fun _ _ _ h => h) (by kernel_rfl) (Or.inl ⟨by rfl, ?_⟩) hHeld (fun hHeld => ?_)
          rotate_left
          · (intro w hSw; (try obtain ⟨hSw, hSx⟩ := hSw); (try dsimp only at hSw); (try dsimp only at hSx); (try obtain ⟨hSw, hSy⟩ := hSw); go_simp; (try with_reducible rfl))
          try simp only [Act.put, List.getElem_toArray, List.getElem_cons_succ, List.getElem_cons_zero, List.setIfInBounds_toArray, List.set_cons_zero, List.set_cons_succ]
          refine takeL1 8 (v := ?_) rfl rfl (by kernel_rfl) (by kernel_rfl) (by kernel_rfl) (by kernel_rfl) (by kernel_rfl) (fun _ _ _ h => h) (by kernel_rfl) (Or.inl ⟨by rfl, ?_⟩) hHeld (fun hHeld => ?_)
          rotate_left
          · (intro w hSw; (try obtain ⟨hSw, hSx⟩ := hSw); (try dsimp only at hSw); (try dsimp only at hSx); (try obtain ⟨hSw, hSy⟩ := hSw); go_simp; (try with_reducible rfl))
          try simp only [Act.put, List.getElem_toArray, List.getElem_cons_succ, List.getElem_cons_zero, List.setIfInBounds_toArray, List.set_cons_zero, List.set_cons_succ]
          refine takeL0 9 (v := ?_) rfl (by kernel_rfl) (by kernel_rfl) (by kernel_rfl) (fun _ _ _ h => h) (by kernel_rfl) (Or.inl ⟨by rfl, ?_⟩) hHeld (fun hHeld => ?_)
          rotate_left
          · (intro w hSw; (try obtain ⟨hSw, hSx⟩ := hSw); (try dsimp only at hSw); (try dsimp only at hSx); (try obtain ⟨hSw, hSy⟩ := hSw); go_simp; (try with_reducible rfl))
          try simp only [Act.put, List.getElem_toArray, List.getElem_cons_succ, List.getElem_cons_zero, List.setIfInBounds_toArray, List.set_cons_zero, List.set_cons_succ]
          refine wpAnyL_ready (rs := [10]) (by kernel_rfl) (by simp) ?_
          refine AllReadyL.cons rfl (fun K hK => ?_) AllReadyL.nil
          go_simp
          refine hK.out _ _ (SL.of CV0 (SD.out.kept (below_alloc _)).blk.cellF) (fun hHeld => ?_)
          clear hK K
          try simp only [Act.put, List.getElem_toArray, List.getElem_cons_succ, List.getElem_cons_zero, List.setIfInBounds_toArray, List.set_cons_zero, List.set_cons_succ]
          refine wpAnyL_ready (rs := [11]) (by kernel_rfl) (by simp) ?_
          refine AllReadyL.cons rfl (fun K hK => ?_) AllReadyL.nil
          refine step_append_tu rfl _ _ 52 52 52 rfl rfl _ _ (.slice aq (pj.length + 1) cq) w12 rfl rfl R12.out ?_
          refine hK.out _ _ (SL.of CV2 B12.out.cellF) (fun hHeld => ?_)
          clear hK K
          try simp only [Act.put, List.getElem_toArray, List.getElem_cons_succ, List.getElem_cons_zero, List.setIfInBounds_toArray, List.set_cons_zero, List.set_cons_succ]
          have y8 := B12.out.frz
          have z8 := B12.out.lt
          have x8 := B12.out.cellF
          refine takeL0 12 (v := ?_) rfl (by kernel_rfl) (by kernel_rfl) (by kernel_rfl) (fun _ _ _ h => h) (by kernel_rfl) (Or.inl ⟨by rfl, ?_⟩) hHeld (fun hHeld => ?_)
          rotate_left
          · (intro w hSw; (try obtain ⟨hSw, hSx⟩ := hSw); (try dsimp only at hSw); (try dsimp only at hSx); (try obtain ⟨hSw, hSy⟩ := hSw); go_simp; (try with_reducible rfl))
          try simp only [Act.put, List.getElem_toArray, List.getElem_cons_succ, List.getElem_cons_zero, List.setIfInBounds_toArray, List.set_cons_zero, List.set_cons_succ]
          refine takeL0 13 (v := ?_) rfl (by kernel_rfl) (by kernel_rfl) (by kernel_rfl) (fun _ _ _ h => h) (by kernel_rfl) (Or.inl ⟨by rfl, ?_⟩) hHeld (fun hHeld => ?_)
          rotate_left
          · (intro w hSw; (try obtain ⟨hSw, hSx⟩ := hSw); (try dsimp only at hSw); (try dsimp only at hSx); (try obtain ⟨hSw, hSy⟩ := hSw); go_simp; (try with_reducible rfl))
          try simp only [Act.put, List.getElem_toArray, List.getElem_cons_succ, List.getElem_cons_zero, List.setIfInBounds_toArray, List.set_cons_zero, List.set_cons_succ]
          refine wpAnyL_ready (rs := [14]) (by kernel_rfl) (by simp) ?_
          refine AllReadyL.cons rfl (fun K hK => ?_) AllReadyL.nil
          go_simp
          refine hK.out _ _ (SL.late CV1 (by kernel_rfl)) (fun hHeld => ?_)
          clear hK K
          try simp only [Act.put, List.getElem_toArray, List.getElem_cons_succ, List.getElem_cons_zero, List.setIfInBounds_toArray, List.set_cons_zero, List.set_cons_succ]
          refine wpAnyL_done (by kernel_rfl) ?_ _
          clear x8 y8 z8 CV0 CV1 CV2 R12 B12 L12
          have HBt : Hid (BK p V (w12.setCell ⟨p, 2, none⟩ (.slice aq (pj.length + 1) cq))) := hid (HBd.out.trans K12.out.put)
          have hst : V.heap.size ≤ (w12.setCell ⟨p, 2, none⟩ (.slice aq (pj.length + 1) cq)).heap.size := by have := BFd.out.lt; simp [World.setCell]; omega
          have HSt : Hid (LsS W0 p (.slice (some ⟨tb, tq, none⟩) l.length tc) (w12.setCell ⟨p, 2, none⟩ (.slice aq (pj.length + 1) cq)) (.slice a8 n8 c8) (.slice aq (pj.length + 1) cq) (ah ++ f.name) (ps ++ (m.fs.take (j + 1)).flatMap F)) := hid (by rw [← HPJ.out, HFX2.out]; exact S12.out)
          generalize w12.setCell ⟨p, 2, none⟩ (.slice aq (pj.length + 1) cq) = Wt at *
          have hcut := hid (HSt.out.cut hp (k := ah.length) rfl)
          have xt := HSt.out.blk.cellF
          have yt := HSt.out.blk.frz
          have zt := HSt.out.blk.lt
          have hnc : (n8 : Int) ≤ (c8 : Int) := by have := own_capP HSt.out.oa; omega
          have hn8 : (ah.length : Int) ≤ (n8 : Int) := by rw [HN8.out, List.length_append]; omega
          have hc63 : (c8 : Int) ≤ 9223372036854775807 := by have := own_capM HSt.out.oa; omega
          go_wp2
          exact ⟨⟨j + 1, _, _, by simp, by omega, hcut, hid HBt.out.put, by simp [World.setCell]; omega⟩, by simp [numAt]; omega⟩
    · have j1 : ¬ (j : Int) < (m.fs.length : Int) := by omega
      obtain rfl : j = m.fs.length := by omega
      go_wp2
      exact bodyPost_ret (v := .tuple #[]) (by simp [results, Tryz.results30]) rfl ⟨rfl, av', pv', by rw [List.take_length] at HR; exact HR.out, by omega, (BK.bel BL0.out).trans HBK.out⟩
end Go.Proofs.YtkifjpaoncjokaaGreatDoor
