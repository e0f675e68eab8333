/-
  Steps laid one behind the other.
  A step whose place is known later.
  A Case and what follows it.
  What follows a Case.
  What follows a Case, and what is written.
  What is written of a field.
-/
import Derived.Test.YtdhkbdngmejklaaGreatDoorCTH
import Derived.Test.YtdhkbdngmejklaaGreatDoorTO
import Derived.Deep.RegionHeld3
import Derived.Laws.BitsLemmas
import Derived.Test.YtdhkbdngmejklaaGreatDoorCTA
namespace Go.Proofs.YtdhkbdngmejklaaGreatDoor
open Go.RowKit
set_option maxRecDepth 1000000
set_option linter.unusedVariables false
set_option linter.unusedSimpArgs false
set_option maxHeartbeats 1000000
theorem step_append_ran {P : Program} {ops : Array Oper} {o : Oper} {a : Act} {w : World} {K : Act → World → Prop} {Q : Exit → Act → World → Prop} {E : Prop}
    (hg : o.guard = none) (s x : Operand) (t ty : TypeId) (hop : o.op = Op.call { callee := Callee.builtin Builtin.append, args := #[s, x], argTypes := #[t, t] }) (hty : o.type = ty)
    (v xv v' : Value) (w' : World) (hs : a.eval s = v) (hx : a.eval x = xv) (hr : (Builtin.append_ #[t, t] ty #[v, xv]).run P w = .ok v' w') (hK : K (a.put o.dst v') w') :
    if Region.wanted o (yielded ops a.tmps) = true then Oper.wp P o a w K Q else E := by
  have hw : Region.wanted o (yielded ops a.tmps) = true := by simp [Region.wanted, hg]
  rw [if_pos hw]
  subst hty
  unfold Oper.wp
  simp [execOp, hop, resolve, invoke, builtin, hs, hx, hr, Result.andThen]
  exact hK
theorem Tryz.infoPI : (Tryz.prog.info? 63).map (fun i => (i.zero, i.size, i.bytes)) = some (some (.agg #[.int .i64 0, .int .i64 0, .int .i64 0, .int .i64 0, .int .i64 0]), 5, 40) := by kernel_rfl
/-- One more. -/
theorem appendPI (base : Nat) (v : Value) (l : List IN) (y : IN) (w : World) (h : w.ownsRow base 63 5 v l.length (l.flatMap cIN)) (hb : base ≤ w.heap.size) (hn : l.length ≤ 4000000) :
    ∃ a c w', Hid ((Builtin.append_ #[28, 28] 28 #[v, .slice (some ⟨w.heap.size, 0, none⟩) 1 1]).run Tryz.prog (w.alloc (.cells #[.int .i64 y.op, .int .i64 y.a, .int .i64 y.b, .int .i64 y.c, .int .i64 y.d] 63)) = .ok (.slice a (l.length + 1) c) w') ∧ Hid (w'.ownsRow base 63 5 (.slice a (l.length + 1) c) (l ++ [y]).length ((l ++ [y]).flatMap cIN)) ∧ Hid (Grow w w' v (.slice a (l.length + 1) c)) := by
  obtain ⟨v', w', h1, h2, h3⟩ := append_st 63 28 5 40 (.agg #[.int .i64 0, .int .i64 0, .int .i64 0, .int .i64 0, .int .i64 0]) Tryz.underlying28 Tryz.infoPI rfl (by decide) (by decide) base v l.length (l.flatMap cIN) w #[.int .i64 y.op, .int .i64 y.a, .int .i64 y.b, .int .i64 y.c, .int .i64 y.d] rfl (fun u hu => by simp at hu; rcases hu with rfl | rfl | rfl | rfl | rfl <;> rfl) h hb hn
  obtain ⟨a, c, rfl⟩ := own_shape h2
  exact ⟨a, c, w', hid h1, hid (by rw [List.flatMap_append, List.length_append]; exact h2), hid h3⟩
/-- The steps that a layout holds. -/
def LyR (w : World) (base p : Nat) (l : List IN) : Prop := base ≤ p ∧ ∃ v, Blk w p 91 #[v] ∧ w.ownsRow base 63 5 v l.length (l.flatMap cIN)
/-- What stays where steps are laid: all below base, and all else but the layout and rows of steps. -/
structure LF (base p : Nat) (w w' : World) : Prop where
  os : w'.os = w.os
  tape : w'.tape = w.tape
  output : w'.output = w.output
  size : w.heap.size ≤ w'.heap.size
  block : ∀ k, k < w.heap.size → k < base ∨ (k ≠ p ∧ ∀ cs fr, w.heap[k]? ≠ some (.cells cs 63 fr)) → w'.heap[k]? = w.heap[k]?
theorem LF.refl (base p : Nat) (w : World) : LF base p w w := ⟨rfl, rfl, rfl, Nat.le_refl _, fun _ _ _ => rfl⟩
theorem LF.trans {base p : Nat} {w w1 w2 : World} (h : LF base p w w1) (g : LF base p w1 w2) : LF base p w w2 :=
  ⟨g.os.trans h.os, g.tape.trans h.tape, g.output.trans h.output, Nat.le_trans h.size g.size, fun k hk hf => by
    have e := h.block k hk hf
    rw [g.block k (Nat.lt_of_lt_of_le hk h.size) (hf.imp id fun ⟨h1, h2⟩ => ⟨h1, fun cs fr => by rw [e]; exact h2 cs fr⟩), e]⟩
theorem LF.ofBelow {base p : Nat} {w w' : World} (h : Below w.heap.size w w') : LF base p w w' := ⟨h.os, h.tape, h.output, h.size, fun k hk _ => h.block k hk⟩
theorem LF.below {base p : Nat} {w w' : World} (h : LF base p w w') (hb : base ≤ w.heap.size) : Below base w w' := ⟨h.os, h.tape, h.output, h.size, fun k hk => h.block k (by omega) (.inl hk)⟩
theorem Blk.lf {base p : Nat} {w w' : World} {q : Nat} {t : TypeId} {cs : Array Value} (h : Blk w q t cs) (g : LF base p w w') (hq : q ≠ p) (ht : t ≠ 63) : Blk w' q t cs := by
  refine (g.block q h.lt (.inr ⟨hq, fun cs' fr e => ?_⟩)).trans h
  rw [show w.heap[q]? = _ from h] at e
  cases e
  exact ht rfl
theorem LF.grow {base p : Nat} {w w' : World} {v v' : Value} {n : Nat} {fl : List Value} (g : Grow w w' v v') (h : w.ownsRow base 63 5 v n fl) : LF base p w w' :=
  ⟨g.os, g.tape, g.output, g.size, fun k hk hf => g.block k hk fun e => by
    obtain ⟨h1, h2, cur, h3⟩ := own_type h e
    rcases hf with hf | ⟨_, hf⟩
    · omega
    · exact hf _ _ h3⟩
theorem LF.set {base p : Nat} (w : World) (i : Nat) (v : Value) (hp : base ≤ p) : LF base p w (w.setCell ⟨p, i, none⟩ v) :=
  ⟨rfl, rfl, rfl, by simp [World.setCell], fun k hk hf => Below.heap_setCell _ _ _ _ (fun e => by
    have e' : k = p := e
    rcases hf with hf | ⟨hf, _⟩
    · omega
    · exact hf e')⟩
theorem layT (w : World) (base p : Nat) (l : List IN) (op : Int) (ns : List Int) (hl : ns.length ≤ 4) (na : Option Addr) (nc : Nat) (h : RowS w AnyZ 1 (.slice na ns.length nc) ns.length (ns.flatMap cI64)) (hL : LyR w base p l) (hn : l.length ≤ 4000000) : Calls Tryz.prog 66 #[.pointer (some ⟨p, 0, none⟩), .int .i64 op, .slice na ns.length nc] w fun e w' => e = .returned (.tuple #[]) ∧ LyR w' base p (l ++ [insV op ns]) ∧ LF base p w w' := by
  obtain ⟨hp, v, hB, hO⟩ := hL
  have HS : Hid (∀ W, Below w.heap.size w W → Calls Tryz.prog 77 #[.int .i64 op, .slice na ns.length nc] W fun e w' => e = .returned (.agg #[.int .i64 (insV op ns).op, .int .i64 (insV op ns).a, .int .i64 (insV op ns).b, .int .i64 (insV op ns).c, .int .i64 (insV op ns).d]) ∧ Below W.heap.size W w') := hid fun W hW => stepT W op ns hl na nc (h.kept hW)
  generalize insV op ns = y at *
  have HB := hid hB
  have HO := hid hO
  have HP := hid hp
  have xp := hB.cellF
  have yp := hB.frz
  have zp := hB.lt
  obtain ⟨a0, c0, rfl⟩ := own_shape hO
  have HAP : Hid (∀ W, Below w.heap.size w W → ∃ a c w', Hid ((Builtin.append_ #[28, 28] 28 #[.slice a0 l.length c0, .slice (some ⟨W.heap.size, 0, none⟩) 1 1]).run Tryz.prog (W.alloc (.cells #[.int .i64 y.op, .int .i64 y.a, .int .i64 y.b, .int .i64 y.c, .int .i64 y.d] 63)) = .ok (.slice a (l.length + 1) c) w') ∧ Hid (Blk w' p 91 #[.slice a0 l.length c0]) ∧ Hid (LyR (w'.setCell ⟨p, 0, none⟩ (.slice a (l.length + 1) c)) base p (l ++ [y]) ∧ LF base p w (w'.setCell ⟨p, 0, none⟩ (.slice a (l.length + 1) c)))) := hid fun W hW => by
    have hO1 := own_kept hO hW
    obtain ⟨a, c, w', h1, h2, h3⟩ := appendPI base _ l y W hO1 (Nat.le_trans (by have := hB.lt; omega) hW.size) hn
    have hB2 : Blk w' p 91 #[.slice a0 l.length c0] := grow_blk h3.out hO1 (hB.kept hW) (by decide)
    refine ⟨a, c, w', h1, hid hB2, hid ⟨⟨hp, .slice a (l.length + 1) c, (hB2.set 0 _).is (by simp), ?_⟩, ((LF.ofBelow hW).trans (LF.grow h3.out hO1)).trans (LF.set _ _ _ hp)⟩⟩
    refine own_keep (f := (· ≠ p)) h2.out (fun k hk e => ?_) (Keep.setCell _ _ _ (fun h => h rfl))
    obtain ⟨_, _, cur, h4⟩ := own_type h2.out hk
    rw [e, show w'.heap[p]? = _ from hB2] at h4
    cases h4
  clear hB hO hp h
  go_enter Tryz.func66, Tryz.ntmps66
  go_wp2_with fail
  go_region_law (first | (refine step_append_ran rfl _ _ 28 28 rfl rfl _ _ _ _ rfl rfl HRUN.out ?_) | (go_simp; go_wp2_with (go_at_call 77; refine (HS.out _ (by first | exact below_drew1 _ | exact blBy)).mono ?_; rintro e u1 ⟨rfl, hb1⟩; have HB1 : Hid (Below w.heap.size w u1) := hid (bl_then (by first | exact below_drew1 _ | exact blBy) hb1); have xp1 := (HB.out.kept HB1.out).cellF; have zp1 := (HB.out.kept HB1.out).lt; obtain ⟨a3, c3, w3, HRUN, HB3, HE⟩ := HAP.out u1 HB1.out; have xp3 := HB3.out.cellF; have yp3 := HB3.out.frz; have zp3 := HB3.out.lt)))
  all_goals (go_end0; exact ⟨rfl, HE.out.1, HE.out.2⟩)
theorem LyR.kept {w w' : World} {base p : Nat} {l : List IN} (h : LyR w base p l) (hb : Below w.heap.size w w') : LyR w' base p l := by
  obtain ⟨hp, v, h1, h2⟩ := h
  exact ⟨hp, v, h1.kept hb, own_kept h2 hb⟩
theorem LyR.lt {w : World} {base p : Nat} {l : List IN} (h : LyR w base p l) : p < w.heap.size := by
  obtain ⟨hp, v, h1, h2⟩ := h
  exact h1.lt
theorem LF.pre {base p : Nat} {w w1 w2 : World} (g : LF base p w1 w2) (hb : Below w.heap.size w w1) : LF base p w w2 := (LF.ofBelow hb).trans g
def ints (ns : List Int) : Array Value := (ns.map (fun n => Value.int .i64 n)).toArray
theorem rowOf' {w : World} {b : Nat} {t : TypeId} {cs : Array Value} (B : Blk w b t cs) (k n : Nat) (fl : List Value) (h : cs = fl.toArray) (hl : fl.length = n * k) (hn : n ≤ 9223372036854775807) : RowS w AnyZ k (.slice (some ⟨b, 0, none⟩) n n) n fl :=
  ⟨some ⟨b, 0, none⟩, n, rfl, hl, Nat.le_refl _, hn, .inr ⟨b, 0, rfl, trivial, fun j u hu => by
    rw [Nat.zero_add]
    exact B.cell j u (by rw [h, List.getElem?_toArray]; exact hu)⟩⟩
theorem mapI : ∀ ns : List Int, ns.map (fun n => Value.int .i64 n) = ns.flatMap cI64
  | [] => rfl
  | a :: r => by rw [List.map_cons, List.flatMap_cons, mapI r]; rfl
theorem ints_row {w : World} {b : Nat} (ns : List Int) (hl : ns.length ≤ 4) (B : Blk w b 3 (ints ns)) : RowS w AnyZ 1 (.slice (some ⟨b, 0, none⟩) ns.length ns.length) ns.length (ns.flatMap cI64) :=
  rowOf' B 1 ns.length _ (by unfold ints; congr 1; exact mapI ns) (flatM_len (g := cI64) (fun _ => rfl) ns) (by omega)
theorem layN (w : World) (base p : Nat) (l : List IN) (op : Int) (ns : List Int) (hl : ns.length ≤ 4) (b : Nat) (hB : Blk w b 3 (ints ns)) (hL : LyR w base p l) (hn : l.length ≤ 4000000) : Calls Tryz.prog 66 #[.pointer (some ⟨p, 0, none⟩), .int .i64 op, .slice (some ⟨b, 0, none⟩) ns.length ns.length] w fun e w' => e = .returned (.tuple #[]) ∧ LyR w' base p (l ++ [insV op ns]) ∧ LF base p w w' :=
  layT w base p l op ns hl _ _ (ints_row ns hl hB) hL hn
theorem layA {w : World} {base p : Nat} {l : List IN} (op : Int) (ns : List Int) (hl : ns.length ≤ 4) (hL : LyR w base p l) (hn : l.length ≤ 4000000) (W : World) (hW : Below w.heap.size w W) : Calls Tryz.prog 66 #[.pointer (some ⟨p, 0, none⟩), .int .i64 op, .slice (some ⟨W.heap.size, 0, none⟩) ns.length ns.length] (W.alloc (.cells (ints ns) 3)) fun e w' => e = .returned (.tuple #[]) ∧ LyR w' base p (l ++ [insV op ns]) ∧ LF base p w w' :=
  (layN _ base p l op ns hl _ (Blk.new _ _ _) ((hL.kept hW).kept (below_alloc _)) hn).mono fun e w' ⟨a, b, c⟩ => ⟨a, b, (c.pre (below_alloc _)).pre hW⟩
theorem layB {w : World} {base p : Nat} {l : List IN} (op : Int) (ns : List Int) (hl : ns.length ≤ 4) (hL : LyR w base p l) (hn : l.length ≤ 4000000) (W : World) (b : Nat) (hW : Below w.heap.size w W) (hB : Blk W b 3 (ints ns)) : Calls Tryz.prog 66 #[.pointer (some ⟨p, 0, none⟩), .int .i64 op, .slice (some ⟨b, 0, none⟩) ns.length ns.length] W fun e w' => e = .returned (.tuple #[]) ∧ LyR w' base p (l ++ [insV op ns]) ∧ LF base p w w' :=
  (layN _ base p l op ns hl _ hB (hL.kept hW) hn).mono fun e w' ⟨a, b, c⟩ => ⟨a, b, c.pre hW⟩
theorem lay0 (w : World) (base p : Nat) (l : List IN) (op : Int) (hL : LyR w base p l) (hn : l.length ≤ 4000000) : Calls Tryz.prog 66 #[.pointer (some ⟨p, 0, none⟩), .int .i64 op, .slice none 0 0] w fun e w' => e = .returned (.tuple #[]) ∧ LyR w' base p (l ++ [insV op []]) ∧ LF base p w w' :=
  layT w base p l op [] (by decide) none 0 (rowS_nil _ _ _) hL hn
/-- The closure that tells a step its place. -/
def Arr (w : World) (p : Nat) (fv : Value) (at_ : Nat) : Prop := ∃ bl ba, fv = .func (.func 113) #[] #[.pointer (some ⟨bl, 0, none⟩), .pointer (some ⟨ba, 0, none⟩)] ∧ Blk w bl 118 #[.pointer (some ⟨p, 0, none⟩)] ∧ Blk w ba 3 #[.int .i64 at_] ∧ bl ≠ p ∧ ba ≠ p
theorem Arr.lf {base p : Nat} {w w' : World} {fv : Value} {n : Nat} (h : Arr w p fv n) (g : LF base p w w') : Arr w' p fv n := by
  obtain ⟨bl, ba, e, h1, h2, h3, h4⟩ := h
  exact ⟨bl, ba, e, h1.lf g h3 (by decide), h2.lf g h4 (by decide), h3, h4⟩
theorem layAheadT (w : World) (base p : Nat) (l : List IN) (op : Int) (ns : List Int) (hl : ns.length ≤ 4) (b : Nat) (hB : Blk w b 3 (ints ns)) (hL : LyR w base p l) (hn : l.length ≤ 4000000) : Calls Tryz.prog 74 #[.pointer (some ⟨p, 0, none⟩), .int .i64 op, .slice (some ⟨b, 0, none⟩) ns.length ns.length] w fun e w' => ∃ fv, e = .returned fv ∧ Arr w' p fv l.length ∧ LyR w' base p (l ++ [insV op ns]) ∧ LF base p w w' := by
  have HLY : Hid (∀ W, Below w.heap.size w W → Calls Tryz.prog 66 #[.pointer (some ⟨p, 0, none⟩), .int .i64 op, .slice (some ⟨b, 0, none⟩) ns.length ns.length] W fun e w' => e = .returned (.tuple #[]) ∧ LyR w' base p (l ++ [insV op ns]) ∧ LF base p W w') := hid fun W hW => layN W base p l op ns hl b (hB.kept hW) (hL.kept hW) hn
  obtain ⟨hp, v, hP, hO⟩ := hL
  obtain ⟨a0, c0, rfl⟩ := own_shape hO
  have xp := hP.cellF
  have zp := hP.lt
  clear hB
  go_enter Tryz.func74, Tryz.ntmps74
  go_wp2_with fail
  refine (HLY.out _ (by exact blBy)).mono ?_
  rintro e w1 ⟨rfl, hL1, hf1⟩
  have A1 : Arr w1 p (.func (.func 113) #[] #[.pointer (some ⟨w.heap.size, 0, none⟩), .pointer (some ⟨w.heap.size + 1, 0, none⟩)]) l.length := ⟨_, _, rfl, ((Blk.new _ _ _).kept (below_alloc _)).lf hf1 (by omega) (by decide), (Blk.newAt (by simp)).lf hf1 (by omega) (by decide), by omega, by omega⟩
  go_wp2
  go_ret
  exact ⟨_, rfl, A1, hL1, hf1.pre (by exact blBy)⟩
theorem cIN_set (l : List IN) (i : Nat) (x : IN) (h : i < l.length) : (l.set i { l[i] with b := x.b }).flatMap cIN = (l.flatMap cIN).set (i * 5 + 2) (.int .i64 x.b) := by
  induction l generalizing i with
  | nil => simp at h
  | cons y r ih =>
    cases i with
    | zero => simp [cIN]
    | succ i =>
      have hi : i < r.length := by simpa using h
      have := ih i hi
      simp only [List.set_cons_succ, List.flatMap_cons, List.getElem_cons_succ]
      rw [this, List.set_append_right _ _ (by simp [cIN]; omega)]
      congr 2
      simp [cIN]
      omega
theorem cellOth {w : World} {b i g j : Nat} {v u : Value} (h : w.cell? ⟨b, i, none⟩ = some v) (hne : b ≠ g) : (w.setCell ⟨g, j, none⟩ u).cell? ⟨b, i, none⟩ = some v := by
  have := Below.heap_setCell w ⟨g, j, none⟩ u b hne
  simp only [World.cell?] at *
  rw [this]
  exact h
theorem arriveT (w : World) (base p bl ba n : Nat) (l : List IN) (h1 : Blk w bl 118 #[.pointer (some ⟨p, 0, none⟩)]) (h2 : Blk w ba 3 #[.int .i64 n]) (hL : LyR w base p l) (hn : l.length ≤ 4000000) (hi : n < l.length) : Calls Tryz.prog 113 #[.pointer (some ⟨bl, 0, none⟩), .pointer (some ⟨ba, 0, none⟩)] w fun e w' => e = .returned (.tuple #[]) ∧ LyR w' base p (l.set n { l[n] with b := l.length }) ∧ LF base p w w' := by
  obtain ⟨hp, v, hP, hO⟩ := hL
  obtain ⟨a0, c0, rfl⟩ := own_shape hO
  have xp := hP.cellF
  have zp := hP.lt
  have x1 := h1.cellF
  have z1 := h1.lt
  have x2 := h2.cellF
  have z2 := h2.lt
  have hi' : (n : Int) < (l.length : Int) := by omega
  rcases hO.2 with ⟨_, h0⟩ | ⟨g, cap, cur, e, hbg, hgg, hnc, hcm, hcs, htk⟩
  · omega
  cases e
  have hG : Blk w g 63 cur := hgg
  have hne : g ≠ p := by
    intro e
    subst e
    have h3 := hP
    unfold Blk at h3 hG
    rw [hG] at h3
    cases h3
  have hsz : n * 5 + 2 < cur.size := by rw [hcs]; omega
  have xg : w.cell? ⟨g, n * 5 + 2, none⟩ = some cur[n * 5 + 2] := hG.cell _ _ (Array.getElem?_eq_getElem hsz)
  have yg := hG.frz
  have zg := hG.lt
  have HF : Hid (LyR ((w.drew).setCell ⟨g, n * 5 + 2, none⟩ (.int .i64 (l.length : Int))) base p (l.set n { l[n] with b := l.length }) ∧ LF base p w ((w.drew).setCell ⟨g, n * 5 + 2, none⟩ (.int .i64 (l.length : Int)))) := hid (by
    refine ⟨⟨hp, .slice (some ⟨g, 0, none⟩) l.length c0, (hP.kept (below_drew1 _)).other (a := ⟨g, n * 5 + 2, none⟩) (fun e => hne e.symm) _, ?_, .inr ⟨g, c0, cur.setIfInBounds (n * 5 + 2) (.int .i64 (l.length : Int)), by rw [List.length_set], hbg, (hG.kept (below_drew1 _)).set _ _, by rw [List.length_set]; exact hnc, hcm, by simpa using hcs, ?_⟩⟩, ?_⟩
    · rw [List.length_set, flatM_len (g := cIN) (k := 5) (fun _ => rfl), List.length_set]
    · rw [List.length_set, cIN_set l n ⟨0, 0, l.length, 0, 0⟩ hi, ← htk]
      simp [List.take_set]
    · exact ⟨rfl, rfl, rfl, by simp [World.setCell], fun k hk hf => (Below.heap_setCell _ _ _ _ (fun e => by
        have e' : k = g := e
        subst e'
        rcases hf with hf | ⟨_, hf⟩
        · omega
        · exact hf _ _ hG)).trans rfl⟩)
  have e1 := x1 0
  have e2 := xp 0
  have e3 := x2 0
  simp only [List.getElem?_toArray, List.getElem?_cons_zero] at e1 e2 e3
  have nt : ∀ {q : Nat} {t : TypeId} {cs : Array Value}, Blk w q t cs → t ≠ 63 → q ≠ g := by
    intro q t cs hq ht e
    subst e
    unfold Blk at hq hG
    rw [hG] at hq
    cases hq
    exact ht rfl
  have n1 := nt h1 (by decide)
  have n2 := nt hP (by decide)
  have n3 := nt h2 (by decide)
  clear nt x1 x2 xp
  clear hP hO hgg hG hcs htk hcm hnc h1 h2
  go_enter Tryz.func113, Tryz.ntmps113
  go_wp2_with fail
  go_region_held3 (fun W => W.cell? ⟨bl, 0, none⟩ = some (.pointer (some ⟨p, 0, none⟩)) ∧ W.cell? ⟨p, 0, none⟩ = some (.slice (some ⟨g, 0, none⟩) l.length c0) ∧ W.cell? ⟨ba, 0, none⟩ = some (.int .i64 n)) (first | exact ⟨e1, e2, e3⟩ | exact ⟨cellOth e1 n1, cellOth e2 n2, cellOth e3 n3⟩) (fail)
  go_end0
  exact ⟨rfl, HF.out.1, HF.out.2⟩
theorem wraps_i64 (n : Int) (h0 : 0 ≤ n) (h1 : n < 2 ^ 62) : IntKind.i64.wrap n = n := by
  simp [IntKind.wrap, IntKind.bits, IntKind.signed]
  omega
theorem tag_or (n k : Int) (hn : 1 ≤ n ∧ n ≤ 536870911) (hk : 0 ≤ k ∧ k < 8) : bits .or .i64 (n * 8) k = n * 8 + k := by
  have h := bits_join .i64 62 (by decide) wraps_i64 3 (n * 8) k (by omega) (by omega) (by omega) (by omega) (by omega) (by omega)
  exact h
theorem tagT (w : World) (n k : Int) (hn : 1 ≤ n ∧ n ≤ 536870911) (hk : 0 ≤ k ∧ k < 8) : Calls Tryz.prog 109 #[.int .i64 n, .int .i64 k] w fun e w' => e = .returned (.int .i64 (tagV n k)) ∧ w' = w := by
  have HX : Hid (bits .or .i64 (n * 8) k = tagV n k) := hid (tag_or n k hn hk)
  go_enter Tryz.func109, Tryz.ntmps109
  go_wp2
  go_ret
  exact ⟨ret_int HX.out, rfl⟩
theorem set_mid (l r : List IN) (x : IN) (n : Int) (L : List IN) (e : L = l ++ x :: r) (h : l.length < L.length) : L.set l.length { L[l.length] with b := n } = l ++ { x with b := n } :: r := by
  subst e
  simp
theorem case_set (l body : List IN) (tag : Int) (h : l.length < (((l ++ [insV 2 [tag]]) ++ body) ++ [insV 4 [0]]).length) : ((((l ++ [insV 2 [tag]]) ++ body) ++ [insV 4 [0]]).set l.length { (((l ++ [insV 2 [tag]]) ++ body) ++ [insV 4 [0]])[l.length] with b := ((((l ++ [insV 2 [tag]]) ++ body) ++ [insV 4 [0]]).length : Int) }) = l ++ caseL l.length tag body := by
  rw [set_mid l (body ++ [insV 4 [0]]) (insV 2 [tag]) _ _ (by simp) h]
  unfold caseL insV
  congr 2
  simp
  omega
theorem layCaseT (w : World) (base p : Nat) (l body : List IN) (f : FT) (hf : FOk f) (k : Int) (hk : 0 ≤ k ∧ k < 8) (fn : FuncId) (caps : Array Value) (hcf : ∀ (args : Array Value) (W : World), (callFunc fn args).run Tryz.prog W = .ok (.enter fn args) W)
    (hK : ∀ W l', LyR W base p l' → l'.length ≤ l.length + 1 → LF base p w W → Calls Tryz.prog fn caps W fun e w' => e = .returned (.tuple #[]) ∧ LyR w' base p (l' ++ body) ∧ LF base p W w') (hL : LyR w base p l) (hn : l.length + body.length ≤ 3999990) : Calls Tryz.prog 68 #[.pointer (some ⟨p, 0, none⟩), .agg #[.string (strOfNums f.name), .int .i64 f.num, .int .i64 f.kind, .int .i64 f.ref, .int .i64 f.lab, .int .i64 f.one, .int .i64 f.key], .int .i64 k, .func (.func fn) #[] caps] w fun e w' => e = .returned (.tuple #[]) ∧ LyR w' base p (l ++ caseL l.length (tagV f.num k) body) ∧ LF base p w w' := by
  have HT := hid (tagT · f.num k hf.num hk)
  have HL := hid hL
  have HK := hid hK
  have HN := hid hn
  clear hK hL hf hk hn
  go_enter Tryz.func68, Tryz.ntmps68
  go_wp2_with (first | (go_at_call 109; refine (HT.out _).mono ?_; rintro e w1 ⟨rfl, rfl⟩))
  refine (layAheadT _ base p l 2 [tagV f.num k] (by simp) _ (Blk.newAt (by simp)) (HL.out.kept (by exact blBy)) (by have := HN.out; omega)).mono ?_
  rintro e w1 ⟨fv, rfl, ⟨bl, ba, rfl, A1, A2, n1, n2⟩, h1, g1⟩
  replace g1 : Hid (LF base p w w1) := hid (g1.pre (by exact blBy))
  replace h1 := hid h1
  replace A1 := hid A1
  replace A2 := hid A2
  go_wp2_with fail
  refine (HK.out _ _ h1.out (by simp) g1.out).mono ?_
  rintro e w2 ⟨rfl, h2, g2⟩
  replace A1 := hid (A1.out.lf g2 n1 (by decide))
  replace A2 := hid (A2.out.lf g2 n2 (by decide))
  replace h2 := hid h2
  replace g2 : Hid (LF base p w w2) := hid (g1.out.trans g2)
  clear h1 g1
  go_wp2_with fail
  refine (layN _ base p _ 4 [0] (by decide) _ (Blk.newAt (by simp)) (h2.out.kept (by exact blBy)) (by have := HN.out; simp; omega)).mono ?_
  rintro e w3 ⟨rfl, h3, g3⟩
  replace g3 : LF base p w2 w3 := g3.pre (by exact blBy)
  replace A1 := hid (A1.out.lf g3 n1 (by decide))
  replace A2 := hid (A2.out.lf g3 n2 (by decide))
  replace h3 := hid h3
  replace g3 : Hid (LF base p w w3) := hid (g2.out.trans g3)
  clear h2 g2
  go_wp2_with fail
  refine (arriveT _ base p bl ba l.length _ A1.out A2.out h3.out (by have := HN.out; simp; omega) (by simp)).mono ?_
  rintro e w4 ⟨rfl, h4, g4⟩
  rw [case_set] at h4
  go_wp2
  go_end0
  exact ⟨rfl, h4, g3.out.trans g4⟩
theorem LF.keep {base p : Nat} {w w' : World} (h : LF base p w w') (hb : base ≤ w.heap.size) : Keep (· < base) w w' := ⟨h.os, h.tape, h.output, h.size, fun k hk hf => h.block k hk (.inl hf)⟩
theorem becomesT (w : World) (l : Int) : Calls Tryz.prog 111 #[.int .i64 l] w fun e w' => e = .returned (.int .i64 (becV l)) ∧ w' = w := by
  have HX : Hid (becV l = if l = 2 then 1 else if l = 4 then 2 else 0) := hid rfl
  by_cases h2 : l = 2
  · subst h2
    go_enter Tryz.func111, Tryz.ntmps111
    go_wp2
    go_ret
    exact ⟨rfl, rfl⟩
  by_cases h4 : l = 4
  · subst h4
    go_enter Tryz.func111, Tryz.ntmps111
    go_wp2
    go_ret
    exact ⟨rfl, rfl⟩
  rw [if_neg h2, if_neg h4] at HX
  have k2 : (l == 2) = false := by simpa using h2
  have k4 : (l == 4) = false := by simpa using h4
  go_enter Tryz.func111, Tryz.ntmps111
  go_wp2
  go_ret
  exact ⟨ret_int HX.out.symm, rfl⟩
theorem putsInT (w : World) (l : Int) : Calls Tryz.prog 112 #[.int .i64 l] w fun e w' => e = .returned (.int .i64 (putV l)) ∧ w' = w := by
  have HX : Hid (putV l = if l = 2 ∨ l = 3 then 8 else 7) := hid rfl
  by_cases h2 : l = 2
  · subst h2
    go_enter Tryz.func112, Tryz.ntmps112
    go_wp2
    go_ret
    exact ⟨rfl, rfl⟩
  by_cases h3 : l = 3
  · subst h3
    go_enter Tryz.func112, Tryz.ntmps112
    go_wp2
    go_ret
    exact ⟨rfl, rfl⟩
  rw [if_neg (by omega)] at HX
  have k2 : (l == 2) = false := by simpa using h2
  have k4 : (l == 3) = false := by simpa using h3
  go_enter Tryz.func112, Tryz.ntmps112
  go_wp2
  go_ret
  exact ⟨ret_int HX.out.symm, rfl⟩
theorem layRowT (w : World) (base p : Nat) (l : List IN) (f : FT) (hf : FOk f) (hL : LyR w base p l) (hn : l.length ≤ 4000000) : Calls Tryz.prog 73 #[.pointer (some ⟨p, 0, none⟩), .agg #[.string (strOfNums f.name), .int .i64 f.num, .int .i64 f.kind, .int .i64 f.ref, .int .i64 f.lab, .int .i64 f.one, .int .i64 f.key]] w fun e w' => e = .returned (.tuple #[]) ∧ LyR w' base p (l ++ rowL f) ∧ LF base p w w' := by
  have HL := hid hL
  obtain ⟨r1, r2⟩ := hf.ref
  clear hL
  by_cases h16 : f.kind = 16
  · have HX : Hid (rowL f = [insV 11 [f.num, 16, f.ref + 1]]) := hid (by unfold rowL; rw [if_pos h16, h16])
    rw [h16]
    go_enter Tryz.func73, Tryz.ntmps73
    go_wp2_with fail
    refine (layN _ base p l 11 [f.num, 16, f.ref + 1] (by simp) _ (Blk.newAt (by simp)) (HL.out.kept (by exact blBy)) hn).mono ?_
    rintro e w1 ⟨rfl, h1, h2⟩
    rw [← HX.out] at h1
    go_wp2
    go_end0
    exact ⟨rfl, h1, h2.pre (by exact blBy)⟩
  · have HX : Hid (rowL f = [insV 11 [f.num, f.kind, 0]]) := hid (by unfold rowL; rw [if_neg h16])
    have k : (f.kind == 16) = false := by simpa using h16
    go_enter Tryz.func73, Tryz.ntmps73
    go_wp2_with fail
    refine (layN _ base p l 11 [f.num, f.kind, 0] (by simp) _ (Blk.newAt (by simp)) (HL.out.kept (by exact blBy)) hn).mono ?_
    rintro e w1 ⟨rfl, h1, h2⟩
    rw [← HX.out] at h1
    go_wp2
    go_end0
    exact ⟨rfl, h1, h2.pre (by exact blBy)⟩
theorem layClearT (w : World) (base p : Nat) (l : List IN) (fs : List FT) (f : FT) (nm : List Int) (en : Bool) (fa : Option Addr) (fc : Nat) (ov sv rv : Value) (hx : RowS w (· < base) 7 (.slice fa fs.length fc) fs.length (fs.flatMap cFT)) (hL : LyR w base p l) (hn : l.length + fs.length ≤ 3999990) (ho : ov.oneCell' = true) (hs : sv.oneCell' = true) (hr : rv.oneCell' = true) : Calls Tryz.prog 110 #[.pointer (some ⟨p, 0, none⟩), .agg #[.string (strOfNums nm), .bool en, .slice fa fs.length fc, ov, sv, rv], .agg #[.string (strOfNums f.name), .int .i64 f.num, .int .i64 f.kind, .int .i64 f.ref, .int .i64 f.lab, .int .i64 f.one, .int .i64 f.key]] w fun e w' => e = .returned (.tuple #[]) ∧ LyR w' base p (l ++ clrL fs f) ∧ LF base p w w' := by
  have HL := hid hL
  have HR := hid hx
  clear hL hx
  by_cases h4 : f.lab = 4
  case neg =>
    have HX : Hid (clrL fs f = []) := hid (by unfold clrL; rw [if_neg h4])
    have k : (f.lab == 4) = false := by simpa using h4
    go_enter Tryz.func110, Tryz.ntmps110
    go_wp2
    (try simp only [Exit.inBlock, Exit.then])
    refine bodyPost_ret (results_none rfl _ _ _) rfl ?_
    exact ⟨rfl, by rw [HX.out, List.append_nil]; exact HL.out.kept (by exact blBy), LF.ofBelow (by exact blBy)⟩
  have HX : Hid (clrL fs f = (fs.filter (clrP f)).map clrS) := hid (by unfold clrL; rw [if_pos h4])
  rw [h4]
  go_enter Tryz.func110, Tryz.ntmps110
  go_wp2_with fail
  have HB : Hid (base ≤ w.heap.size ∧ p < w.heap.size) := hid ⟨by have := HL.out.1; have := HL.out.lt; omega, HL.out.lt⟩
  go_loopw [14] (fun r wr => ∃ j : Nat, r = .int .i64 j ∧ j ≤ fs.length ∧ Hid (LyR wr base p (l ++ ((fs.take j).filter (clrP f)).map clrS)) ∧ Hid (LF base p w wr) ∧ Hid (Blk wr (w.heap.size + 1) 61 #[.string (strOfNums f.name), .int .i64 f.num, .int .i64 f.kind, .int .i64 f.ref, .int .i64 4, .int .i64 f.one, .int .i64 f.key])) (fun r wr => fs.length - numAt wr r)
  case atStart => exact ⟨0, rfl, by omega, hid (by simpa using HL.out.kept (by exact blBy)), hid (LF.ofBelow (by exact blBy)), hid (Blk.newAt (by simp))⟩
  case round =>
    obtain ⟨j, rfl, hj, h1, g1, B1⟩ := hrel
    by_cases hlt : j < fs.length
    · have h2 : (j : Int) < (fs.length : Int) := by omega
      have h63 : (fs.length : Int) ≤ 9223372036854775807 := by omega
      obtain ⟨fb, fo, rfl, hc⟩ := rowAt (g := cFT) (fun _ => rfl) (HR.out.keep (g1.out.keep HB.out.1) (fun _ h => h)) (i := j) (x := fs[j]) (by simp [hlt])
      have c0 := hc 0 _ rfl
      have c1 := hc 1 _ rfl
      have c2 := hc 2 _ rfl
      have c3 := hc 3 _ rfl
      have c4 := hc 4 _ rfl
      have c5 := hc 5 _ rfl
      have c6 := hc 6 _ rfl
      clear hc
      simp only [Nat.add_zero] at c0
      have hfb : fb < wr.heap.size := World.block_lt_of_cell? _ _ c0
      have HTK : Hid ((fs.take (j + 1)).filter (clrP f) = (fs.take j).filter (clrP f) ++ (if clrP f fs[j] = true then [fs[j]] else [])) := hid (by rw [List.take_succ_eq_append_getElem hlt, List.filter_append]; congr 1; simp only [List.filter_cons, List.filter_nil])
      have HLN : Hid ((l ++ ((fs.take j).filter (clrP f)).map clrS).length ≤ 4000000) := hid (by
        have := List.length_filter_le (clrP f) (fs.take j)
        simp only [List.length_append, List.length_map]
        rw [List.length_take] at this
        omega)
      generalize fs[j] = o at *
      have xf := B1.out.cellF
      have zf := B1.out.lt
      by_cases q4 : o.lab = 4
      case neg =>
        have k4 : (o.lab == 4) = false := by simpa using q4
        have HP : Hid (clrP f o = false) := hid (by simp [clrP, q4])
        go_wp2
        exact ⟨⟨j + 1, by simp, by omega, hid (by rw [HTK.out, HP.out]; simpa using h1.out.kept (below_alloc _)), hid (g1.out.trans (LF.ofBelow (below_alloc _))), hid (B1.out.kept (below_alloc _))⟩, by simp [numAt]; omega⟩
      by_cases q5 : o.one = f.one
      case neg =>
        have k4 : (o.lab == 4) = true := by simpa using q4
        have k5 : (o.one == f.one) = false := by simpa using q5
        have HP : Hid (clrP f o = false) := hid (by simp [clrP, q5])
        clear q4 q5
        go_wp2
        exact ⟨⟨j + 1, by simp, by omega, hid (by rw [HTK.out, HP.out]; simpa using h1.out.kept (below_alloc _)), hid (g1.out.trans (LF.ofBelow (below_alloc _))), hid (B1.out.kept (below_alloc _))⟩, by simp [numAt]; omega⟩
      have k4 : (o.lab == 4) = true := by simpa using q4
      have k5 : (o.one == f.one) = true := by simpa using q5
      have HP : Hid (clrP f o = true) := hid (by simp [clrP, q4, q5])
      clear q4 q5
      go_wp2_with fail
      refine (layN _ base p _ 9 [o.num] (by simp) _ (Blk.newAt (by simp)) (h1.out.kept (by exact blBy)) HLN.out).mono ?_
      rintro e w1 ⟨rfl, h3, g3⟩
      replace g3 : LF base p wr w1 := g3.pre (by exact blBy)
      go_wp2
      exact ⟨⟨j + 1, by simp, by omega, hid (by rw [HTK.out, HP.out]; simpa [clrS] using h3), hid (g1.out.trans g3), hid (B1.out.lf g3 (by have := HB.out.2; omega) (by decide))⟩, by simp [numAt]; omega⟩
    · have h2 : ¬ (j : Int) < (fs.length : Int) := by omega
      have e1 : fs.take j = fs := List.take_of_length_le (by omega)
      rw [e1, ← HX.out] at h1
      go_wp2
      go_end0
      exact ⟨rfl, h1.out, g1.out⟩
theorem clrL_len (fs : List FT) (f : FT) : (clrL fs f).length ≤ fs.length := by
  unfold clrL
  split
  · rw [List.length_map]; exact List.length_filter_le _ _
  · simp
theorem layValueT (w : World) (base p : Nat) (l : List IN) (f : FT) (fs : List FT) (nm : List Int) (en : Bool) (fa oa sa ra : Option Addr) (fc on oc sn sc rn rc : Nat) (hx : RowS w (· < base) 7 (.slice fa fs.length fc) fs.length (fs.flatMap cFT)) (hL : LyR w base p l) (hn : l.length + fs.length ≤ 3999980) : Calls Tryz.prog 70 #[.pointer (some ⟨p, 0, none⟩), .agg #[.string (strOfNums nm), .bool en, .slice fa fs.length fc, .slice oa on oc, .slice sa sn sc, .slice ra rn rc], .agg #[.string (strOfNums f.name), .int .i64 f.num, .int .i64 f.kind, .int .i64 f.ref, .int .i64 f.lab, .int .i64 f.one, .int .i64 f.key]] w fun e w' => e = .returned (.tuple #[]) ∧ LyR w' base p (l ++ valL fs f) ∧ LF base p w w' := by
  have HL := hid hL
  have HR := hid hx
  have HB : Hid (base ≤ w.heap.size ∧ p < w.heap.size) := hid ⟨by have := hL.1; have := hL.lt; omega, hL.lt⟩
  have HN := hid hn
  clear hL hx hn
  by_cases h5 : f.lab = 5
  · have HX : Hid (valL fs f = [insV 12 [f.num, f.key, f.kind, f.ref]]) := hid (by unfold valL; rw [if_pos h5])
    have k5 : (f.lab == 5) = true := by simpa using h5
    clear h5
    go_enter Tryz.func70, Tryz.ntmps70
    go_wp2_with fail
    refine (layN _ base p l 12 [f.num, f.key, f.kind, f.ref] (by simp) _ (Blk.newAt (by simp)) (HL.out.kept (by exact blBy)) (by have := HN.out; omega)).mono ?_
    rintro e w1 ⟨rfl, h1, h2⟩
    rw [← HX.out] at h1
    go_wp2
    go_end0
    exact ⟨rfl, h1, h2.pre (by exact blBy)⟩
  have k5 : (f.lab == 5) = false := by simpa using h5
  have Bx : Hid (Blk ((w.alloc (.cells #[.string (strOfNums nm), .bool en, .slice fa fs.length fc, .slice oa on oc, .slice sa sn sc, .slice ra rn rc] 57)).alloc (.cells #[.string (strOfNums f.name), .int .i64 f.num, .int .i64 f.kind, .int .i64 f.ref, .int .i64 f.lab, .int .i64 f.one, .int .i64 f.key] 61)) w.heap.size 57 #[.string (strOfNums nm), .bool en, .slice fa fs.length fc, .slice oa on oc, .slice sa sn sc, .slice ra rn rc]) := hid ((Blk.new _ _ _).kept (below_alloc _))
  have Bf : Hid (Blk ((w.alloc (.cells #[.string (strOfNums nm), .bool en, .slice fa fs.length fc, .slice oa on oc, .slice sa sn sc, .slice ra rn rc] 57)).alloc (.cells #[.string (strOfNums f.name), .int .i64 f.num, .int .i64 f.kind, .int .i64 f.ref, .int .i64 f.lab, .int .i64 f.one, .int .i64 f.key] 61)) (w.heap.size + 1) 61 #[.string (strOfNums f.name), .int .i64 f.num, .int .i64 f.kind, .int .i64 f.ref, .int .i64 f.lab, .int .i64 f.one, .int .i64 f.key]) := hid (Blk.newAt (by simp))
  have HC := hid (clrL_len fs f)
  by_cases h17 : f.kind = 17
  · have HX : Hid (valL fs f = clrL fs f ++ [insV 10 [f.num, f.ref, becV f.lab]]) := hid (by unfold valL; rw [if_neg h5, if_pos h17])
    have k17 : (f.kind == 17) = true := by simpa using h17
    have HBE := hid (becomesT · f.lab)
    clear h5 h17
    go_enter Tryz.func70, Tryz.ntmps70
    go_wp2_with fail
    refine (layClearT _ base p l fs f nm en fa fc _ _ _ (HR.out.keep (f := fun _ => True) (Keep.ofBelow (by exact blBy)) (fun _ _ => trivial)) (HL.out.kept (by exact blBy)) (by have := HN.out; omega) rfl rfl rfl).mono ?_
    rintro e w1 ⟨rfl, h1, g1⟩
    replace Bx := hid (Bx.out.lf g1 (by have := HB.out; omega) (by decide))
    replace Bf := hid (Bf.out.lf g1 (by have := HB.out; omega) (by decide))
    replace h1 := hid h1
    replace g1 := hid (g1.pre (w := w) (by exact blBy))
    have xf := Bf.out.cellF
    have zf := Bf.out.lt
    have e1 := Bf.out.cell 1 _ rfl
    have e2 := Bf.out.cell 3 _ rfl
    have e3 := Bf.out.cell 4 _ rfl
    clear xf
    have HLA := hid (layB 10 [f.num, f.ref, becV f.lab] (by simp) h1.out (by have := HN.out; have := HC.out; simp only [List.length_append, List.length_cons, List.length_nil]; omega))
    go_wp2_with fail
    go_region_held3 (fun W => W.cell? ⟨w.heap.size + 1, 1, none⟩ = some (.int .i64 f.num) ∧ W.cell? ⟨w.heap.size + 1, 3, none⟩ = some (.int .i64 f.ref) ∧ W.cell? ⟨w.heap.size + 1, 4, none⟩ = some (.int .i64 f.lab)) (first | exact ⟨e1, e2, e3⟩ | exact ⟨cell_below e1 (bl_drew (below_alloc _)), cell_below e2 (bl_drew (below_alloc _)), cell_below e3 (bl_drew (below_alloc _))⟩) (first | (go_at_call 111; refine (HBE.out _).mono ?_; rintro e w2 ⟨rfl, rfl⟩) | (go_at_call 66; refine (HLA.out _ _ (bl_drew (below_alloc _)) ((Blk.new _ _ _).kept (below_drew1 _))).mono ?_; rintro e w5 ⟨rfl, h5, g5⟩; replace e1 := (Bf.out.lf g5 (by have := HB.out; omega) (by decide)).cell 1 _ rfl; replace e2 := (Bf.out.lf g5 (by have := HB.out; omega) (by decide)).cell 3 _ rfl; replace e3 := (Bf.out.lf g5 (by have := HB.out; omega) (by decide)).cell 4 _ rfl))
    rw [List.append_assoc, ← HX.out] at h5
    go_wp2
    go_end0
    exact ⟨rfl, h5, g1.out.trans g5⟩
  have k17 : (f.kind == 17) = false := by simpa using h17
  have HPU := hid (putsInT · f.lab)
  have HLR : Hid (∀ W, Below w.heap.size w W → Calls Tryz.prog 66 #[.pointer (some ⟨p, 0, none⟩), .int .i64 5, .slice (some ⟨w.heap.size + 1 + 1, 0, none⟩) 1 1] (((w.alloc (.cells #[.string (strOfNums nm), .bool en, .slice fa fs.length fc, .slice oa on oc, .slice sa sn sc, .slice ra rn rc] 57)).alloc (.cells #[.string (strOfNums f.name), .int .i64 f.num, .int .i64 f.kind, .int .i64 f.ref, .int .i64 f.lab, .int .i64 f.one, .int .i64 f.key] 61)).alloc (.cells #[.int .i64 f.kind] 3)) fun e w' => e = .returned (.tuple #[]) ∧ LyR w' base p (l ++ [insV 5 [f.kind]]) ∧ LF base p ((w.alloc (.cells #[.string (strOfNums nm), .bool en, .slice fa fs.length fc, .slice oa on oc, .slice sa sn sc, .slice ra rn rc] 57)).alloc (.cells #[.string (strOfNums f.name), .int .i64 f.num, .int .i64 f.kind, .int .i64 f.ref, .int .i64 f.lab, .int .i64 f.one, .int .i64 f.key] 61)) w') := hid fun W hW => (layN _ base p l 5 [f.kind] (by simp) _ (Blk.newAt (by simp)) (HL.out.kept (by exact blBy)) (by have := HN.out; omega)).mono fun e w1 ⟨a, b, c⟩ => ⟨a, b, c.pre (below_alloc _)⟩
  by_cases h16 : f.kind = 16
  · have HX : Hid (valL fs f = [insV 5 [f.kind]] ++ [insV 6 [f.ref]] ++ clrL fs f ++ [insV (putV f.lab) [f.num]]) := hid (by unfold valL; rw [if_neg h5, if_neg h17, if_pos h16])
    have k16 : (f.kind == 16) = true := by simpa using h16
    clear h5 h17 h16
    go_enter Tryz.func70, Tryz.ntmps70
    go_wp2_with fail
    refine (HLR.out w (Below.refl _ _)).mono ?_
    rintro e w1 ⟨rfl, h1, g1⟩
    replace Bx := hid (Bx.out.lf g1 (by have := HB.out; omega) (by decide))
    replace Bf := hid (Bf.out.lf g1 (by have := HB.out; omega) (by decide))
    replace h1 := hid h1
    replace g1 := hid (g1.pre (w := w) (by exact blBy))
    have xf := Bf.out.cellF
    have zf := Bf.out.lt
    have xx := Bx.out.cellF
    have zx := Bx.out.lt
    go_wp2_with fail
    refine (layN _ base p _ 6 [f.ref] (by simp) _ (Blk.newAt (by simp)) (h1.out.kept (by exact blBy)) (by have := HN.out; simp; omega)).mono ?_
    rintro e w2 ⟨rfl, h2, g2⟩
    replace g2 := g2.pre (w := w1) (by exact blBy)
    replace Bx := hid (Bx.out.lf g2 (by have := HB.out; omega) (by decide))
    replace Bf := hid (Bf.out.lf g2 (by have := HB.out; omega) (by decide))
    replace h2 := hid h2
    replace g2 := hid (g1.out.trans g2)
    clear h1 g1 xf zf xx zx
    have xf := Bf.out.cellF
    have zf := Bf.out.lt
    have xx := Bx.out.cellF
    have zx := Bx.out.lt
    go_wp2_with fail
    refine (layClearT _ base p _ fs f nm en fa fc _ _ _ (HR.out.keep (g2.out.keep HB.out.1) (fun _ h => h)) h2.out (by have := HN.out; simp; omega) rfl rfl rfl).mono ?_
    rintro e w3 ⟨rfl, h3, g3⟩
    replace Bx := hid (Bx.out.lf g3 (by have := HB.out; omega) (by decide))
    replace Bf := hid (Bf.out.lf g3 (by have := HB.out; omega) (by decide))
    replace h3 := hid h3
    replace g3 := hid (g2.out.trans g3)
    clear h2 g2 xf zf xx zx
    have xf := Bf.out.cellF
    have zf := Bf.out.lt
    have e1 := Bf.out.cell 1 _ rfl
    have e2 := Bf.out.cell 2 _ rfl
    have e3 := Bf.out.cell 4 _ rfl
    clear xf
    have HLA := hid (layB (putV f.lab) [f.num] (by simp) h3.out (by have := HN.out; have := HC.out; simp only [List.length_append, List.length_cons, List.length_nil]; omega))
    go_wp2_with fail
    go_region_held3 (fun W => W.cell? ⟨w.heap.size + 1, 1, none⟩ = some (.int .i64 f.num) ∧ W.cell? ⟨w.heap.size + 1, 2, none⟩ = some (.int .i64 f.kind) ∧ W.cell? ⟨w.heap.size + 1, 4, none⟩ = some (.int .i64 f.lab)) (first | exact ⟨e1, e2, e3⟩ | exact ⟨cell_below e1 (bl_drew (below_alloc _)), cell_below e2 (bl_drew (below_alloc _)), cell_below e3 (bl_drew (below_alloc _))⟩) (first | (go_at_call 112; refine (HPU.out _).mono ?_; rintro e w2 ⟨rfl, rfl⟩) | (go_at_call 66; refine (HLA.out _ _ (bl_drew (below_alloc _)) ((Blk.new _ _ _).kept (below_drew1 _))).mono ?_; rintro e w5 ⟨rfl, h5, g5⟩; replace e1 := (Bf.out.lf g5 (by have := HB.out; omega) (by decide)).cell 1 _ rfl; replace e2 := (Bf.out.lf g5 (by have := HB.out; omega) (by decide)).cell 2 _ rfl; replace e3 := (Bf.out.lf g5 (by have := HB.out; omega) (by decide)).cell 4 _ rfl))
    all_goals
      replace h5 : LyR w5 base p (l ++ valL fs f) := by rw [HX.out]; simpa using h5
      go_wp2
      go_end0
      exact ⟨rfl, h5, g3.out.trans g5⟩
  · have HX : Hid (valL fs f = [insV 5 [f.kind]] ++ clrL fs f ++ [insV (putV f.lab) [f.num]]) := hid (by unfold valL; rw [if_neg h5, if_neg h17, if_neg h16]; simp)
    have k16 : (f.kind == 16) = false := by simpa using h16
    clear h5 h17 h16
    go_enter Tryz.func70, Tryz.ntmps70
    go_wp2_with fail
    refine (HLR.out w (Below.refl _ _)).mono ?_
    rintro e w2 ⟨rfl, h2, g2⟩
    replace Bx := hid (Bx.out.lf g2 (by have := HB.out; omega) (by decide))
    replace Bf := hid (Bf.out.lf g2 (by have := HB.out; omega) (by decide))
    replace h2 := hid h2
    replace g2 := hid (g2.pre (w := w) (by exact blBy))
    have xf := Bf.out.cellF
    have zf := Bf.out.lt
    have xx := Bx.out.cellF
    have zx := Bx.out.lt
    go_wp2_with fail
    refine (layClearT _ base p _ fs f nm en fa fc _ _ _ (HR.out.keep (g2.out.keep HB.out.1) (fun _ h => h)) h2.out (by have := HN.out; simp; omega) rfl rfl rfl).mono ?_
    rintro e w3 ⟨rfl, h3, g3⟩
    replace Bx := hid (Bx.out.lf g3 (by have := HB.out; omega) (by decide))
    replace Bf := hid (Bf.out.lf g3 (by have := HB.out; omega) (by decide))
    replace h3 := hid h3
    replace g3 := hid (g2.out.trans g3)
    clear h2 g2 xf zf xx zx
    have xf := Bf.out.cellF
    have zf := Bf.out.lt
    have e1 := Bf.out.cell 1 _ rfl
    have e2 := Bf.out.cell 2 _ rfl
    have e3 := Bf.out.cell 4 _ rfl
    clear xf
    have HLA := hid (layB (putV f.lab) [f.num] (by simp) h3.out (by have := HN.out; have := HC.out; simp only [List.length_append, List.length_cons, List.length_nil]; omega))
    go_wp2_with fail
    go_region_held3 (fun W => W.cell? ⟨w.heap.size + 1, 1, none⟩ = some (.int .i64 f.num) ∧ W.cell? ⟨w.heap.size + 1, 2, none⟩ = some (.int .i64 f.kind) ∧ W.cell? ⟨w.heap.size + 1, 4, none⟩ = some (.int .i64 f.lab)) (first | exact ⟨e1, e2, e3⟩ | exact ⟨cell_below e1 (bl_drew (below_alloc _)), cell_below e2 (bl_drew (below_alloc _)), cell_below e3 (bl_drew (below_alloc _))⟩) (first | (go_at_call 112; refine (HPU.out _).mono ?_; rintro e w2 ⟨rfl, rfl⟩) | (go_at_call 66; refine (HLA.out _ _ (bl_drew (below_alloc _)) ((Blk.new _ _ _).kept (below_drew1 _))).mono ?_; rintro e w5 ⟨rfl, h5, g5⟩; replace e1 := (Bf.out.lf g5 (by have := HB.out; omega) (by decide)).cell 1 _ rfl; replace e2 := (Bf.out.lf g5 (by have := HB.out; omega) (by decide)).cell 2 _ rfl; replace e3 := (Bf.out.lf g5 (by have := HB.out; omega) (by decide)).cell 4 _ rfl))
    all_goals
      replace h5 : LyR w5 base p (l ++ valL fs f) := by rw [HX.out]; simpa using h5
      go_wp2
      go_end0
      exact ⟨rfl, h5, g3.out.trans g5⟩
theorem valueWireT (w : World) (f : FT) (hf : FOk f) : Calls Tryz.prog 67 #[.agg #[.string (strOfNums f.name), .int .i64 f.num, .int .i64 f.kind, .int .i64 f.ref, .int .i64 f.lab, .int .i64 f.one, .int .i64 f.key]] w fun e w' => e = .returned (.tuple #[.int .i64 (wireV f), .int .i64 0]) ∧ Below w.heap.size w w' := by
  have HK := hid (wireKW f.kind)
  have HE : Hid (kwireE f.kind = 0) := hid (by unfold kwireE; rw [if_pos hf.kind])
  rw [HE.out] at HK
  by_cases h5 : f.lab = 5
  · have HX : Hid (wireV f = 2) := hid (by unfold wireV; rw [if_pos h5])
    have k5 : (f.lab == 5) = true := by simpa using h5
    clear h5
    go_enter Tryz.func67, Tryz.ntmps67
    go_wp2
    go_ret2
    exact ⟨ret_ii HX.out.symm rfl, by exact blBy⟩
  · have HX : Hid (wireV f = max (kwire f.kind) 0) := hid (by unfold wireV; rw [if_neg h5])
    have k5 : (f.lab == 5) = false := by simpa using h5
    clear h5
    generalize max (kwire f.kind) 0 = kw at *
    go_enter Tryz.func67, Tryz.ntmps67
    go_wp2_with (first | (go_at_call 108; refine (HK.out _).mono ?_; rintro e w1 ⟨rfl, rfl⟩))
    go_ret2
    exact ⟨ret_ii HX.out.symm rfl, by exact blBy⟩
theorem wireV_le (f : FT) (hf : FOk f) : 0 ≤ wireV f ∧ wireV f < 8 := by
  unfold wireV kwire
  have := hf.kind
  split
  · omega
  · split
    · omega
    · split
      · omega
      · split
        · omega
        · split <;> omega
theorem layWrittenT (w : World) (base p : Nat) (l : List IN) (f : FT) (hf : FOk f) (hL : LyR w base p l) (hn : l.length ≤ 3999990) : Calls Tryz.prog 75 #[.pointer (some ⟨p, 0, none⟩), .agg #[.string (strOfNums f.name), .int .i64 f.num, .int .i64 f.kind, .int .i64 f.ref, .int .i64 f.lab, .int .i64 f.one, .int .i64 f.key]] w fun e w' => e = .returned (.tuple #[]) ∧ LyR w' base p (l ++ wrtL f) ∧ LF base p w w' := by
  have HV := hid (valueWireT · f hf)
  have HT := hid (tagT · f.num (wireV f) hf.num (wireV_le f hf))
  have HT2 := hid (tagT · f.num 2 hf.num (by decide))
  have HL := hid hL
  have HN := hid hn
  have HB : Hid (base ≤ w.heap.size ∧ p < w.heap.size) := hid ⟨by have := hL.1; have := hL.lt; omega, hL.lt⟩
  have HLB := hf.lab
  have hlab : f.lab = 0 ∨ f.lab = 1 ∨ f.lab = 4 ∨ f.lab = 2 ∨ f.lab = 3 ∨ f.lab = 5 := by omega
  clear hf hL hn HLB
  rcases hlab with h0 | hlab
  · have HX : Hid (wrtL f = [insV 17 [tagV f.num (wireV f)], if f.kind = 17 then insV 19 [f.ref] else insV 18 [f.kind]]) := hid (by unfold wrtL; rw [if_neg (by omega), if_neg (by omega), if_neg (by omega)])
    rw [h0] at HV ⊢
    go_enter Tryz.func75, Tryz.ntmps75
    go_wp2_with fail
    refine (HV.out _).mono ?_
    rintro e w1 ⟨rfl, hb1⟩
    have Bf : Blk w1 w.heap.size 61 #[.string (strOfNums f.name), .int .i64 f.num, .int .i64 f.kind, .int .i64 f.ref, .int .i64 0, .int .i64 f.one, .int .i64 f.key] := (Blk.new _ _ _).kept hb1
    replace hb1 : Hid (Below w.heap.size w w1) := hid (bl_then (by exact blBy) hb1)
    have H1 : Hid (LyR w1 base p l) := hid (HL.out.kept hb1.out)
    have xf := Bf.cellF
    have zf := Bf.lt
    replace Bf := hid Bf
    go_wp2_with (first | (go_at_call 109; refine (HT.out _).mono ?_; rintro e w2 ⟨rfl, rfl⟩))
    refine (layA 17 [tagV f.num (wireV f)] (by simp) H1.out (by have := HN.out; omega) _ (by exact blBy)).mono ?_
    rintro e w3 ⟨rfl, h3, g3⟩
    replace Bf := hid (Bf.out.lf g3 (by have := HB.out; omega) (by decide))
    replace g3 := hid (g3.pre hb1.out)
    clear xf zf
    have xf := Bf.out.cellF
    have zf := Bf.out.lt
    have H3 := hid h3
    clear h3
    by_cases h17 : f.kind = 17
    · have k17 : (f.kind == 17) = true := by simpa using h17
      rw [if_pos h17] at HX
      clear h17
      go_wp2_with fail
      refine (layA 19 [f.ref] (by simp) H3.out (by have := HN.out; simp; omega) _ (by exact blBy)).mono ?_
      rintro e w4 ⟨rfl, h4, g4⟩
      replace h4 : LyR w4 base p (l ++ wrtL f) := by rw [HX.out]; simpa using h4
      go_wp2
      go_end0
      exact ⟨rfl, h4, g3.out.trans g4⟩
    · have k17 : (f.kind == 17) = false := by simpa using h17
      rw [if_neg h17] at HX
      clear h17
      go_wp2_with fail
      refine (layA 18 [f.kind] (by simp) H3.out (by have := HN.out; simp; omega) _ (by exact blBy)).mono ?_
      rintro e w4 ⟨rfl, h4, g4⟩
      replace h4 : LyR w4 base p (l ++ wrtL f) := by rw [HX.out]; simpa using h4
      go_wp2
      go_end0
      exact ⟨rfl, h4, g3.out.trans g4⟩
  rcases hlab with h1 | hlab
  · have HX : Hid (wrtL f = [insV 17 [tagV f.num (wireV f)], if f.kind = 17 then insV 19 [f.ref] else insV 18 [f.kind]]) := hid (by unfold wrtL; rw [if_neg (by omega), if_neg (by omega), if_neg (by omega)])
    rw [h1] at HV ⊢
    go_enter Tryz.func75, Tryz.ntmps75
    go_wp2_with fail
    refine (HV.out _).mono ?_
    rintro e w1 ⟨rfl, hb1⟩
    have Bf : Blk w1 w.heap.size 61 #[.string (strOfNums f.name), .int .i64 f.num, .int .i64 f.kind, .int .i64 f.ref, .int .i64 1, .int .i64 f.one, .int .i64 f.key] := (Blk.new _ _ _).kept hb1
    replace hb1 : Hid (Below w.heap.size w w1) := hid (bl_then (by exact blBy) hb1)
    have H1 : Hid (LyR w1 base p l) := hid (HL.out.kept hb1.out)
    have xf := Bf.cellF
    have zf := Bf.lt
    replace Bf := hid Bf
    go_wp2_with (first | (go_at_call 109; refine (HT.out _).mono ?_; rintro e w2 ⟨rfl, rfl⟩))
    refine (layA 17 [tagV f.num (wireV f)] (by simp) H1.out (by have := HN.out; omega) _ (by exact blBy)).mono ?_
    rintro e w3 ⟨rfl, h3, g3⟩
    replace Bf := hid (Bf.out.lf g3 (by have := HB.out; omega) (by decide))
    replace g3 := hid (g3.pre hb1.out)
    clear xf zf
    have xf := Bf.out.cellF
    have zf := Bf.out.lt
    have H3 := hid h3
    clear h3
    by_cases h17 : f.kind = 17
    · have k17 : (f.kind == 17) = true := by simpa using h17
      rw [if_pos h17] at HX
      clear h17
      go_wp2_with fail
      refine (layA 19 [f.ref] (by simp) H3.out (by have := HN.out; simp; omega) _ (by exact blBy)).mono ?_
      rintro e w4 ⟨rfl, h4, g4⟩
      replace h4 : LyR w4 base p (l ++ wrtL f) := by rw [HX.out]; simpa using h4
      go_wp2
      go_end0
      exact ⟨rfl, h4, g3.out.trans g4⟩
    · have k17 : (f.kind == 17) = false := by simpa using h17
      rw [if_neg h17] at HX
      clear h17
      go_wp2_with fail
      refine (layA 18 [f.kind] (by simp) H3.out (by have := HN.out; simp; omega) _ (by exact blBy)).mono ?_
      rintro e w4 ⟨rfl, h4, g4⟩
      replace h4 : LyR w4 base p (l ++ wrtL f) := by rw [HX.out]; simpa using h4
      go_wp2
      go_end0
      exact ⟨rfl, h4, g3.out.trans g4⟩
  rcases hlab with h4 | hlab
  · have HX : Hid (wrtL f = [insV 17 [tagV f.num (wireV f)], if f.kind = 17 then insV 19 [f.ref] else insV 18 [f.kind]]) := hid (by unfold wrtL; rw [if_neg (by omega), if_neg (by omega), if_neg (by omega)])
    rw [h4] at HV ⊢
    go_enter Tryz.func75, Tryz.ntmps75
    go_wp2_with fail
    refine (HV.out _).mono ?_
    rintro e w1 ⟨rfl, hb1⟩
    have Bf : Blk w1 w.heap.size 61 #[.string (strOfNums f.name), .int .i64 f.num, .int .i64 f.kind, .int .i64 f.ref, .int .i64 4, .int .i64 f.one, .int .i64 f.key] := (Blk.new _ _ _).kept hb1
    replace hb1 : Hid (Below w.heap.size w w1) := hid (bl_then (by exact blBy) hb1)
    have H1 : Hid (LyR w1 base p l) := hid (HL.out.kept hb1.out)
    have xf := Bf.cellF
    have zf := Bf.lt
    replace Bf := hid Bf
    go_wp2_with (first | (go_at_call 109; refine (HT.out _).mono ?_; rintro e w2 ⟨rfl, rfl⟩))
    refine (layA 17 [tagV f.num (wireV f)] (by simp) H1.out (by have := HN.out; omega) _ (by exact blBy)).mono ?_
    rintro e w3 ⟨rfl, h3, g3⟩
    replace Bf := hid (Bf.out.lf g3 (by have := HB.out; omega) (by decide))
    replace g3 := hid (g3.pre hb1.out)
    clear xf zf
    have xf := Bf.out.cellF
    have zf := Bf.out.lt
    have H3 := hid h3
    clear h3
    by_cases h17 : f.kind = 17
    · have k17 : (f.kind == 17) = true := by simpa using h17
      rw [if_pos h17] at HX
      clear h17
      go_wp2_with fail
      refine (layA 19 [f.ref] (by simp) H3.out (by have := HN.out; simp; omega) _ (by exact blBy)).mono ?_
      rintro e w4 ⟨rfl, h4, g4⟩
      replace h4 : LyR w4 base p (l ++ wrtL f) := by rw [HX.out]; simpa using h4
      go_wp2
      go_end0
      exact ⟨rfl, h4, g3.out.trans g4⟩
    · have k17 : (f.kind == 17) = false := by simpa using h17
      rw [if_neg h17] at HX
      clear h17
      go_wp2_with fail
      refine (layA 18 [f.kind] (by simp) H3.out (by have := HN.out; simp; omega) _ (by exact blBy)).mono ?_
      rintro e w4 ⟨rfl, h4, g4⟩
      replace h4 : LyR w4 base p (l ++ wrtL f) := by rw [HX.out]; simpa using h4
      go_wp2
      go_end0
      exact ⟨rfl, h4, g3.out.trans g4⟩
  rcases hlab with h2 | hlab
  · have HX : Hid (wrtL f = [insV 20 [tagV f.num (wireV f), f.kind, f.ref]]) := hid (by unfold wrtL; rw [if_neg (by omega), if_neg (by omega), if_pos h2])
    rw [h2] at HV ⊢
    go_enter Tryz.func75, Tryz.ntmps75
    go_wp2_with fail
    refine (HV.out _).mono ?_
    rintro e w1 ⟨rfl, hb1⟩
    have Bf : Blk w1 w.heap.size 61 #[.string (strOfNums f.name), .int .i64 f.num, .int .i64 f.kind, .int .i64 f.ref, .int .i64 2, .int .i64 f.one, .int .i64 f.key] := (Blk.new _ _ _).kept hb1
    replace hb1 : Hid (Below w.heap.size w w1) := hid (bl_then (by exact blBy) hb1)
    have H1 : Hid (LyR w1 base p l) := hid (HL.out.kept hb1.out)
    have xf := Bf.cellF
    have zf := Bf.lt
    replace Bf := hid Bf
    go_wp2_with (first | (go_at_call 109; refine (HT.out _).mono ?_; rintro e w2 ⟨rfl, rfl⟩))
    refine (layA 20 [tagV f.num (wireV f), f.kind, f.ref] (by simp) H1.out (by have := HN.out; omega) _ (by exact blBy)).mono ?_
    rintro e w3 ⟨rfl, h3, g3⟩
    replace h3 : LyR w3 base p (l ++ wrtL f) := by rw [HX.out]; exact h3
    go_wp2
    go_end0
    exact ⟨rfl, h3, g3.pre hb1.out⟩
  rcases hlab with h3 | h5
  · have HX : Hid (wrtL f = [insV 21 [tagV f.num 2, f.kind]]) := hid (by unfold wrtL; rw [if_neg (by omega), if_pos h3])
    rw [h3] at HV ⊢
    go_enter Tryz.func75, Tryz.ntmps75
    go_wp2_with fail
    refine (HV.out _).mono ?_
    rintro e w1 ⟨rfl, hb1⟩
    have Bf : Blk w1 w.heap.size 61 #[.string (strOfNums f.name), .int .i64 f.num, .int .i64 f.kind, .int .i64 f.ref, .int .i64 3, .int .i64 f.one, .int .i64 f.key] := (Blk.new _ _ _).kept hb1
    replace hb1 : Hid (Below w.heap.size w w1) := hid (bl_then (by exact blBy) hb1)
    have H1 : Hid (LyR w1 base p l) := hid (HL.out.kept hb1.out)
    have xf := Bf.cellF
    have zf := Bf.lt
    replace Bf := hid Bf
    have e1 := Bf.out.cell 1 _ rfl
    have e2 := Bf.out.cell 2 _ rfl
    simp only [List.getElem_toArray, List.getElem_cons_succ, List.getElem_cons_zero] at e1 e2
    have HLA := hid (layB 21 [tagV f.num 2, f.kind] (by simp) H1.out (by have := HN.out; omega))
    go_wp2_with (first | (go_at_call 109; refine (HT.out _).mono ?_; rintro e w2 ⟨rfl, rfl⟩))
    clear xf
    go_region_held3 (fun W => W.cell? ⟨w.heap.size, 1, none⟩ = some (.int .i64 f.num) ∧ W.cell? ⟨w.heap.size, 2, none⟩ = some (.int .i64 f.kind)) (first | exact ⟨e1, e2⟩ | exact ⟨cell_below e1 (bl_drew (below_alloc _)), cell_below e2 (bl_drew (below_alloc _))⟩) (first | (go_at_call 109; refine (HT2.out _).mono ?_; rintro e w2 ⟨rfl, rfl⟩) | (go_at_call 66; refine (HLA.out _ _ (bl_drew (below_alloc _)) ((Blk.new _ _ _).kept (below_drew1 _))).mono ?_; rintro e w3 ⟨rfl, h3, g3⟩; replace e1 := (Bf.out.lf g3 (by have := HB.out; omega) (by decide)).cell 1 _ rfl; replace e2 := (Bf.out.lf g3 (by have := HB.out; omega) (by decide)).cell 2 _ rfl))
    replace h3 : LyR w3 base p (l ++ wrtL f) := by rw [HX.out]; exact h3
    go_wp2
    go_end0
    exact ⟨rfl, h3, g3.pre hb1.out⟩
  · have HX : Hid (wrtL f = [insV 22 [tagV f.num (wireV f), f.key, f.kind, f.ref]]) := hid (by unfold wrtL; rw [if_pos h5])
    rw [h5] at HV ⊢
    go_enter Tryz.func75, Tryz.ntmps75
    go_wp2_with fail
    refine (HV.out _).mono ?_
    rintro e w1 ⟨rfl, hb1⟩
    have Bf : Blk w1 w.heap.size 61 #[.string (strOfNums f.name), .int .i64 f.num, .int .i64 f.kind, .int .i64 f.ref, .int .i64 5, .int .i64 f.one, .int .i64 f.key] := (Blk.new _ _ _).kept hb1
    replace hb1 : Hid (Below w.heap.size w w1) := hid (bl_then (by exact blBy) hb1)
    have H1 : Hid (LyR w1 base p l) := hid (HL.out.kept hb1.out)
    have xf := Bf.cellF
    have zf := Bf.lt
    replace Bf := hid Bf
    go_wp2_with (first | (go_at_call 109; refine (HT.out _).mono ?_; rintro e w2 ⟨rfl, rfl⟩))
    refine (layA 22 [tagV f.num (wireV f), f.key, f.kind, f.ref] (by simp) H1.out (by have := HN.out; omega) _ (by exact blBy)).mono ?_
    rintro e w3 ⟨rfl, h3, g3⟩
    replace h3 : LyR w3 base p (l ++ wrtL f) := by rw [HX.out]; exact h3
    go_wp2
    go_end0
    exact ⟨rfl, h3, g3.pre hb1.out⟩
end Go.Proofs.YtdhkbdngmejklaaGreatDoor
