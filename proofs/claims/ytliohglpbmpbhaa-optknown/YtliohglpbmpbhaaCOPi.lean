/-
  opt: which places are named, as marks; fused.
  opt: fused.
  opt: fused, behind its marks.
  opt: fused.
  opt: marks made and cleared.
-/
import Derived.Test.YtliohglpbmpbhaaCOPd
import Derived.Laws.MakeOwn
import Derived.Laws.OwnMore
import Derived.Lib.SliceRun
namespace Go.Proofs.Ytliohglpbmpbhaa
open Go.RowKit Go.Shelf
set_option maxRecDepth 1000000
attribute [local go_sem] Oper.semAt_some
set_option linter.unusedVariables false
set_option linter.unusedSimpArgs false
set_option maxHeartbeats 2000000
/-- The number that stands at a place. -/
def pvW (w : World) (x : Int × Addr) : Int := match w.cell? x.2 with
  | some (.int .i64 v) => v
  | _ => 0
def mk1 (bs : List Bool) (v : Int) : List Bool := if 0 ≤ v ∧ v < bs.length then bs.set v.toNat true else bs
def mkA (bs : List Bool) (vs : List Int) : List Bool := vs.foldl mk1 bs
theorem mk1_len (bs : List Bool) (v : Int) : (mk1 bs v).length = bs.length := by unfold mk1; split <;> simp
theorem mkA_len (vs : List Int) : ∀ bs : List Bool, (mkA bs vs).length = bs.length := by
  induction vs with
  | nil => intro bs; rfl
  | cons v vs ih => intro bs; exact (ih (mk1 bs v)).trans (mk1_len bs v)
theorem mkA_snoc (bs : List Bool) (vs : List Int) (v : Int) : mkA bs (vs ++ [v]) = mk1 (mkA bs vs) v := by
  unfold mkA
  rw [List.foldl_append]
  rfl
def cB (b : Bool) : List Value := [.bool b]
theorem cB_set (bs : List Bool) (k : Nat) : (bs.set k true).flatMap cB = (bs.flatMap cB).set k (.bool true) := by
  induction bs generalizing k with
  | nil => rfl
  | cons b bs ih =>
    cases k with
    | zero => rfl
    | succ k =>
      show .bool b :: (bs.set k true).flatMap cB = .bool b :: (bs.flatMap cB).set k (.bool true)
      rw [ih]
theorem cB_at (bs : List Bool) (k : Nat) (hk : k < bs.length) : (bs.flatMap cB)[k]? = some (.bool bs[k]) := by
  induction bs generalizing k with
  | nil => simp at hk
  | cons b bs ih =>
    cases k with
    | zero => rfl
    | succ k =>
      show (bs.flatMap cB)[k]? = _
      rw [ih k (by simpa using hk)]
      rfl
/-- What the marks are, on the way. -/
structure MkS (f : Nat → Prop) (w3 : World) (base : Nat) (ma : Option Addr) (mc : Nat) (bs : List Bool) (pre : List (Int × Addr)) (W : World) : Prop where
  kp : Keep f w3 W
  o : W.ownsRow base 4 1 (.slice ma (mkA bs (pre.map (pvW w3))).length mc) (mkA bs (pre.map (pvW w3))).length ((mkA bs (pre.map (pvW w3))).flatMap cB)
theorem own_MkS {f : Nat → Prop} {w3 : World} {base : Nat} {ma : Option Addr} {mc : Nat} {bs : List Bool} {L : List (Int × Addr)} (hf : ∀ k, f k → k < w3.heap.size) : OwnFrom w3.heap.size (fun (pre : List (XN L)) W => MkS f w3 base ma mc bs (pre.map (fun y => y.1)) W) := fun s A B row hs hg hr =>
  ⟨⟨hg.os.trans hs.kp.os, hg.tape.trans hs.kp.tape, hg.output.trans hs.kp.output, Nat.le_trans hs.kp.size hg.size, fun k hk hfk => (hg.block k (Nat.lt_of_lt_of_le hk hs.kp.size) (fun e => by have := (hr k e.symm).1; omega)).trans (hs.kp.block k hk hfk)⟩, own_grown hs.o hg (fun r e => (hr r e).2)⟩
theorem cell_kpO {f : Nat → Prop} {w w' : World} {a : Addr} {v : Value} (h : w.cell? a = some v) (hb : Keep f w w') (hf : f a.block) : w'.cell? a = some v := by
  have hlt : a.block < w.heap.size := by
    rw [← Nat.not_le]
    intro hn
    unfold World.cell? at h
    rw [Array.getElem?_eq_none hn] at h
    cases h
  have := hb.block a.block hlt hf
  unfold World.cell? at *
  rw [this]
  exact h
/-- A place more. -/
theorem MkS.step {f : Nat → Prop} {w3 : World} {base : Nat} {ma : Option Addr} {mc : Nat} {bs : List Bool} {pre : List (Int × Addr)} {W : World} (h : MkS f w3 base ma mc bs pre W) {x : Int × Addr} {v : Int} (hc : w3.cell? x.2 = some (.int .i64 v)) (hfx : f x.2.block) (hf : ∀ g, ma.map (·.block) = some g → ¬ f g) (hma : 0 < bs.length → ∃ g, ma = some ⟨g, 0, none⟩) :
    W.cell? x.2 = some (.int .i64 v) ∧ (¬ (0 ≤ v ∧ v < bs.length) → MkS f w3 base ma mc bs (pre ++ [x]) W) ∧ (∀ k : Nat, v = k → k < bs.length → ∃ g, ma = some ⟨g, 0, none⟩ ∧ (∃ b0, W.cell? ⟨g, k, none⟩ = some (.bool b0)) ∧ W.frozen? ⟨g, k, none⟩ = false ∧ MkS f w3 base ma mc bs (pre ++ [x]) (W.setCell ⟨g, k, none⟩ (.bool true)) ∧ Keep f W (W.setCell ⟨g, k, none⟩ (.bool true)) ∧ x.2.block ≠ g) := by
  have ev : pvW w3 x = v := by unfold pvW; rw [hc]
  have em : mkA bs ((pre ++ [x]).map (pvW w3)) = mk1 (mkA bs (pre.map (pvW w3))) v := by rw [List.map_append, List.map_cons, List.map_nil, mkA_snoc, ev]
  have hl := mkA_len (pre.map (pvW w3)) bs
  refine ⟨cell_kpO hc h.kp hfx, fun hn => ⟨h.kp, ?_⟩, fun k hv hk => ?_⟩
  · rw [em, show mk1 (mkA bs (pre.map (pvW w3))) v = mkA bs (pre.map (pvW w3)) by unfold mk1; rw [hl, if_neg hn]]
    exact h.o
  · subst hv
    obtain ⟨g, rfl⟩ := hma (by omega)
    have hk2 : k < (mkA bs (pre.map (pvW w3))).length := by omega
    obtain ⟨c0, c1⟩ := own_cell0 h.o (cB_at _ k hk2)
    have hkp : Keep f W (W.setCell ⟨g, k, none⟩ (.bool true)) := Keep.setCell _ _ _ (hf g rfl)
    refine ⟨g, rfl, ⟨_, c0⟩, c1, ⟨h.kp.trans hkp, ?_⟩, hkp, fun e => hf g rfl (by rw [← e]; exact hfx)⟩
    rw [em, show mk1 (mkA bs (pre.map (pvW w3))) (k : Int) = (mkA bs (pre.map (pvW w3))).set k true by unfold mk1; rw [if_pos ⟨by omega, by omega⟩, Int.toNat_natCast], cB_set, List.length_set]
    exact own_put0 h.o k (by omega) _
attribute [local go_sem] Oper.semAt_some
/-- The numbers of the places that steps and rows name. -/
def plV (x : IN) : List Int := match plI x with
  | some 1 => [x.a]
  | some 2 => [x.b]
  | _ => []
def nmV (l : List IN) (rows : List LN) : List Int := l.flatMap plV ++ rows.map (fun r => r.pl)
theorem row_of {w : World} {K : Nat} {la : Option Addr} {n c : Nat} {fl : List Value} (h : RowS w AnyZ K (.slice la n c) n fl) (h0 : 0 < n) (hK : 0 < K) : ∃ b o, la = some ⟨b, o, none⟩ ∧ ∀ k u, fl[k]? = some u → w.cell? ⟨b, o + k, none⟩ = some u := by
  obtain ⟨a2, c2, e, hv⟩ := h
  cases e
  rcases hv.cells with ⟨hl0, hn0⟩ | ⟨b', off, rfl, _, hc⟩
  · omega
  · exact ⟨b', off, rfl, fun k u hk => hc k u hk⟩
theorem flat_at {α : Type} {g : α → List Value} {K : Nat} (hK : ∀ x, (g x).length = K) {l : List α} {i j : Nat} (hi : i < l.length) {u : Value} (hj : (g l[i])[j]? = some u) : (l.flatMap g)[i * K + j]? = some u := by
  have e : l.flatMap g = (l.take i).flatMap g ++ (g l[i] ++ (l.drop (i + 1)).flatMap g) := by
    conv => lhs; rw [← List.take_append_drop i l, List.drop_eq_getElem_cons hi]
    rw [List.flatMap_append, List.flatMap_cons]
  have e2 : ((l.take i).flatMap g).length = i * K := by rw [flatN hK, List.length_take, Nat.min_eq_left (by omega)]
  have hj2 : j < (g l[i]).length := (List.getElem?_eq_some_iff.1 hj).1
  rw [e, List.getElem?_append_right (by omega), e2, Nat.add_sub_cancel_left, List.getElem?_append_left hj2]
  exact hj
theorem opC_row {w : World} {la : Option Addr} {l : List IN} {c : Nat} (h : RowS w AnyZ 5 (.slice la l.length c) l.length (l.flatMap cIN)) : OpC la l w := fun i hi => by
  obtain ⟨b, o, rfl, hc⟩ := row_of h (by omega) (by omega)
  have := hc (i * 5 + 0) _ (flat_at (g := cIN) (K := 5) (fun _ => rfl) hi (u := .int .i64 l[i].op) rfl)
  simpa [adr] using this
/-- What stands at the places: the numbers. -/
theorem pv_map {w : World} {la ra : Option Addr} {l : List IN} {rows : List LN} {c d : Nat} (h : RowS w AnyZ 5 (.slice la l.length c) l.length (l.flatMap cIN)) (g : RowS w AnyZ 2 (.slice ra rows.length d) rows.length (rows.flatMap cLN)) : (nmL la l ra rows).map (pvW w) = nmV l rows ∧ ∀ x ∈ nmL la l ra rows, ∃ v, w.cell? x.2 = some (.int .i64 v) := by
  have k1 : ∀ i (hi : i < l.length), (nm1 la (l[i], i)).map (pvW w) = plV l[i] ∧ ∀ x ∈ nm1 la (l[i], i), ∃ v, w.cell? x.2 = some (.int .i64 v) := fun i hi => by
    obtain ⟨b, o, rfl, hc⟩ := row_of h (by omega) (by omega)
    unfold nm1 plV
    rcases pl_cases l[i] with q | q | q <;> rw [q]
    · exact ⟨rfl, fun x hx => by cases hx⟩
    · have e := hc (i * 5 + 1) _ (flat_at (g := cIN) (K := 5) (fun _ => rfl) hi (u := .int .i64 l[i].a) rfl)
      have e2 : w.cell? (adr (some ⟨b, o, none⟩) (i * 5) 1) = some (.int .i64 l[i].a) := by simpa [adr, Nat.add_assoc] using e
      exact ⟨by simp [pvW, e2], fun x hx => by rw [List.mem_singleton] at hx; subst hx; exact ⟨_, e2⟩⟩
    · have e := hc (i * 5 + 2) _ (flat_at (g := cIN) (K := 5) (fun _ => rfl) hi (u := .int .i64 l[i].b) rfl)
      have e2 : w.cell? (adr (some ⟨b, o, none⟩) (i * 5) 2) = some (.int .i64 l[i].b) := by simpa [adr, Nat.add_assoc] using e
      exact ⟨by simp [pvW, e2], fun x hx => by rw [List.mem_singleton] at hx; subst hx; exact ⟨_, e2⟩⟩
  have k2 : ∀ i (hi : i < rows.length), pvW w (nmG ra i) = rows[i].pl ∧ ∃ v, w.cell? (nmG ra i).2 = some (.int .i64 v) := fun i hi => by
    obtain ⟨b, o, rfl, hc⟩ := row_of g (by omega) (by omega)
    have e := hc (i * 2 + 1) _ (flat_at (g := cLN) (K := 2) (fun _ => rfl) hi (u := .int .i64 rows[i].pl) rfl)
    have e2 : w.cell? (nmG (some ⟨b, o, none⟩) i).2 = some (.int .i64 rows[i].pl) := by simpa [nmG, adr, Nat.add_assoc] using e
    exact ⟨by simp [pvW, e2], _, e2⟩
  have k3 : ∀ i, i ≤ l.length → ((l.zipIdx.take i).flatMap (nm1 la)).map (pvW w) = (l.take i).flatMap plV := fun i => by
    induction i with
    | zero => intro _; rfl
    | succ i ih =>
      intro hi
      rw [nmS_next (by omega), List.map_append, ih (by omega), (k1 i (by omega)).1, List.take_succ_eq_append_getElem (by omega), List.flatMap_append]
      simp
  constructor
  · unfold nmL nmV
    rw [List.map_append]
    congr 1
    · have := k3 l.length (Nat.le_refl _)
      rw [nmS_all la l (Nat.le_refl _), List.take_length] at this
      exact this
    · unfold nmR
      rw [List.map_map]
      apply List.ext_getElem
      · simp
      · intro i h1 h2
        simp only [List.length_map, List.length_range] at h1
        simp [(k2 i h1).1]
  · intro x hx
    unfold nmL at hx
    rcases List.mem_append.1 hx with hx | hx
    · unfold nmS at hx
      rw [List.mem_flatMap] at hx
      obtain ⟨⟨y, i⟩, hy, hx⟩ := hx
      rw [List.mk_mem_zipIdx_iff_getElem?] at hy
      obtain ⟨hi, rfl⟩ := List.getElem?_eq_some_iff.1 hy
      exact (k1 i hi).2 x hx
    · unfold nmR at hx
      rw [List.mem_map] at hx
      obtain ⟨i, hi, rfl⟩ := hx
      rw [List.mem_range] at hi
      exact (k2 i hi).2
attribute [local go_sem] Oper.semAt_some
/-- What two steps become, where the second is not named. -/
def fuZ (nm : List Bool) (l : List IN) (k : Nat) : Option IN := match l[k]?, l[k + 1]?, nm[k + 1]? with
  | some x, some y, some false => oneI x y
  | _, _, _ => none
/-- Steps made one, from a place on: what is told, and where each stands. -/
def fuN (nm : List Bool) (l : List IN) : Nat → Nat → List IN → List (Int × Int) → List IN × List (Int × Int)
  | 0, _, out, ps => (out, ps)
  | n + 1, k, out, ps => match l[k]? with
    | none => (out, ps)
    | some x => match fuZ nm l k with
      | some z => fuN nm l n (k + 2) (out ++ [z]) (ps ++ [((k : Int), (out.length : Int))])
      | none => fuN nm l n (k + 1) (out ++ [x]) (ps ++ [((k : Int), (out.length : Int))])
def psM (ps : List (Int × Int)) : Int → Option Int := ps.foldl (fun M p => putM M p.1 p.2) (fun _ => none)
def fuA (l : List IN) (nm : List Bool) : List IN × List (Int × Int) := fuN nm l (l.length + 1) 0 [] []
/-- What stands from a region on. -/
def fromRegionO (n : Nat) : Code → Option Code
  | .seq (.region i ops d) c => if i = n then some (.seq (.region i ops d) c) else fromRegionO n c
  | .seq _ c => fromRegionO n c
  | _ => none
noncomputable def fuRest : Code := (Try.f27.body.bind (fromRegionO 5)).getD .skip
theorem mkMap0 (W : World) : (Instr.makeMap 69 none).run Try.prog W = .ok (.map (some W.heap.size)) (W.alloc (.map #[] 0)) := by rfl
theorem setQ5 {W : World} {q t : Nat} {cs : Array Value} {a b c d e : Value} (h : Blk W q t cs) : Keep (fun k => k ≠ q) W (((((W.setCell ⟨q, 0, none⟩ a).setCell ⟨q, 1, none⟩ b).setCell ⟨q, 2, none⟩ c).setCell ⟨q, 3, none⟩ d).setCell ⟨q, 4, none⟩ e) :=
  ((((Keep.setCell _ _ _ (fun h => h rfl)).trans (Keep.setCell _ _ _ (fun h => h rfl))).trans (Keep.setCell _ _ _ (fun h => h rfl))).trans (Keep.setCell _ _ _ (fun h => h rfl))).trans (Keep.setCell _ _ _ (fun h => h rfl))
theorem Blk.set5 {w : World} {p : Nat} {t : TypeId} {x0 x1 x2 x3 x4 a b c d e : Value} (h : Blk w p t #[x0, x1, x2, x3, x4]) : Blk (((((w.setCell ⟨p, 0, none⟩ a).setCell ⟨p, 1, none⟩ b).setCell ⟨p, 2, none⟩ c).setCell ⟨p, 3, none⟩ d).setCell ⟨p, 4, none⟩ e) p t #[a, b, c, d, e] := ((((h.set 0 a).set 1 b).set 2 c).set 3 d).set 4 e
theorem exitGen {Q : Exit → Act → World → Prop} {e : Exit} {a : Act} {W w2 : World} (h : Below w2.heap.size w2 W) (k : ∀ W', Below w2.heap.size w2 W' → Q e a W') : Q e a W := k W h
theorem exitGen2 {Q : Exit → Act → World → Prop} {e : Exit} {a : Act} {W w2 : World} (p : Nat) (t : TypeId) (cs : Array Value) (h : Below w2.heap.size w2 W) (hp : w2.heap.size ≤ p) (hb : Blk W p t cs) (k : ∀ W', Below w2.heap.size w2 W' → w2.heap.size ≤ p → Blk W' p t cs → Q e a W') : Q e a W := k W h hp hb
theorem fuApp (s : Nat) (W U : World) (va : Option Addr) (vc : Nat) (out : List IN) (z : IN) (c : Nat) (M : Int → Option Int) (hO : U.ownsRow W.heap.size 42 5 (.slice va out.length vc) out.length (out.flatMap cIN)) (hM : MpI U W.heap.size c M) (hB : Below W.heap.size W U) (hn : out.length ≤ 4000000) (hs : U.heap.size = s) : ∃ a2 d2 W5, Hid ((Builtin.append_ #[22, 22] 22 #[.slice va out.length vc, .slice (some ⟨s, 0, none⟩) 1 1]).run Try.prog (U.alloc (.cells #[.int .i64 z.op, .int .i64 z.a, .int .i64 z.b, .int .i64 z.c, .int .i64 z.d] 42)) = .ok (.slice a2 (out.length + 1) d2) W5) ∧ Hid (W5.ownsRow W.heap.size 42 5 (.slice a2 (out ++ [z]).length d2) (out ++ [z]).length ((out ++ [z]).flatMap cIN)) ∧ Hid (MpI W5 W.heap.size c M) ∧ Hid (Below W.heap.size W W5) := by
  subst hs
  obtain ⟨a2, d2, W5, R5, O5, G5⟩ := appendPI W.heap.size (.slice va out.length vc) out z U hO hB.size hn
  refine ⟨a2, d2, W5, R5, hid (by have q := O5.out; rw [List.length_append] at q ⊢; exact q), hid (hM.same (G5.out.block _ hM.lt (fun e => by
        obtain ⟨_, _, cur, q⟩ := own_type hO e
        obtain ⟨Dm, ⟨es, ck, q1, q2⟩, -⟩ := hM
        rw [q1] at q
        cases q))), hid (hB.trans (G5.out.below hB.size (fun k hk => (own_type hO hk).1)))⟩
/-- The state of the loop, and what it will tell. -/
theorem fuN_end {nm : List Bool} {l : List IN} {n k : Nat} {out : List IN} {ps : List (Int × Int)} (hk : l.length ≤ k) : fuN nm l n k out ps = (out, ps) := by
  cases n with
  | zero => rfl
  | succ n => unfold fuN; rw [List.getElem?_eq_none hk]
theorem fuN_step {nm : List Bool} {l : List IN} {n k : Nat} {out : List IN} {ps : List (Int × Int)} (hk : k < l.length) : fuN nm l (n + 1) k out ps = match fuZ nm l k with
    | some z => fuN nm l n (k + 2) (out ++ [z]) (ps ++ [((k : Int), (out.length : Int))])
    | none => fuN nm l n (k + 1) (out ++ [l[k]]) (ps ++ [((k : Int), (out.length : Int))]) := by
  conv => lhs; unfold fuN
  rw [List.getElem?_eq_getElem hk]
theorem psM_snoc (ps : List (Int × Int)) (a b : Int) : psM (ps ++ [(a, b)]) = putM (psM ps) a b := by
  unfold psM
  rw [List.foldl_append]
  rfl
theorem wpListIn_append_ran {F : Fence} {n : Nat} {P : Program} {w : World} {ops : Array Oper} {rest : List Oper} {o : Oper} {a : Act} {Q : Exit → Act → World → Prop} (hgd : o.guard = none) (s x : Operand) (t ty : TypeId)
    (ho : o.op = .call { callee := .builtin .append, args := #[s, x], argTypes := #[t, t] }) (hty : o.type = ty) (v xv v' : Value) (w' : World) (hs : a.eval s = v) (hx : a.eval x = xv)
    (hr : (Builtin.append_ #[t, t] ty #[v, xv]).run P w = .ok v' w') (h : wpListIn F n P ops Q rest (a.put o.dst v') w') : wpListIn F n P ops Q (o :: rest) a w := by
  subst hty
  refine wpListIn_plain hgd fun K hK => ?_
  unfold Oper.wpIn
  refine ⟨?_, ?_⟩
  · simp [Oper.about, ho, resolve, Target.leads, Sem.run_pure]
  · rw [Oper.semAt_plain F _ _ (by rw [ho]; intro c hc'; cases hc')]
    simp [execOp, ho, resolve, invoke, builtin, hs, hx, hr, Result.andThen]
    exact hK _ _ h
theorem leave_one {fn : Func} {tmps : Array Value} {R : Ending → World → Prop} (n : Nat) {D : Nat} {W : World} (hD : W.heap[D]? = some (.deferred (some []))) (h : ∃ v, (results fn tmps).run Try.prog (W.putObj D (.deferred none)) = .ok v (W.putObj D (.deferred none)) ∧ R (.returned v) (W.putObj D (.deferred none))) : LeavesInM Fence.wide n Try.prog fn tmps R [mkD D] .returning W :=
  ⟨by simp, .inl ⟨D, _, rfl, run_takeDeferred hD, h⟩⟩
theorem keep_put (W : World) (D : Nat) (o : Obj) : Keep (fun k => k ≠ D) W (W.putObj D o) := ⟨rfl, rfl, rfl, by simp [World.putObj], fun k _ hk => putObj_other hk o⟩
theorem fuRestW (W : World) (l : List IN) (la ma : Option Addr) (lc mc p0 p1 D B : Nat) (nm : List Bool) (R : Ending → World → Prop) (hl : RowS W AnyZ 5 (.slice la l.length lc) l.length (l.flatMap cIN)) (hm : W.ownsRow B 4 1 (.slice ma nm.length mc) nm.length (nm.flatMap cB)) (hlen : nm.length = l.length) (hn : l.length ≤ 1048576) (b0 : Blk W p0 22 #[.slice la l.length lc]) (b1 : Blk W p1 68 #[.slice ma nm.length mc]) (hD : W.heap[D]? = some (.deferred (some [])))
    (hR : ∀ va vc b n W2, Keep (fun k => k ≠ D) W W2 → W2.ownsRow W.heap.size 42 5 (.slice va (fuA l nm).1.length vc) (fuA l nm).1.length ((fuA l nm).1.flatMap cIN) → MpI W2 b n (psM (fuA l nm).2) → W.heap.size ≤ b → R (.returned (.tuple #[.slice va (fuA l nm).1.length vc, .map (some b)])) W2) (v1 v2 v16 v17 v18 : Value) : Code.wpIn Fence.wide 3 Try.prog fuRest (bodyPostM Fence.wide 3 Try.prog Try.f27 R) ⟨#[.slice la l.length lc, v1, v2, .pointer (some ⟨p0, 0, none⟩), undef, .pointer (some ⟨p1, 0, none⟩), .slice none 0 0, .map none, undef, undef, undef, undef, undef, undef, undef, undef, v16, v17, v18, undef, undef, undef, undef, undef, undef, undef, undef, undef, undef, undef, undef, undef, undef, undef, undef, undef, undef, undef, undef, undef, undef, undef, undef, undef, undef, undef, undef, undef, undef, undef, undef, undef, undef, undef, undef, undef, undef, undef, undef, undef, undef, undef, undef, undef, undef, undef, undef, undef, undef, undef, undef, undef, undef, undef, undef, undef, undef, undef, undef, undef, undef, undef, undef, undef, undef, undef], [mkD D]⟩ W := by
  have HL := hid hl
  have HM := hid hm
  have HLEN := hid hlen
  have HB0 := hid b0
  have HB1 := hid b1
  have HD := hid hD
  have HR := hid hR
  have m1 : (l.length : Int) ≤ 9223372036854775807 := by omega
  clear hl hm hlen b0 b1 hD hR
  have hmk := mkMap0
  conv => arg 4; whnf
  gi_wp2
  clear hmk
  gi_loopw [10, 12] (fun o r wr => ∃ (k : Nat) (va : Option Addr) (vc : Nat) (out : List IN) (ps : List (Int × Int)) (n c : Nat), o = .slice va out.length vc ∧ r = .int .i64 k ∧ k ≤ l.length + 1 ∧ Hid (fuN nm l n k out ps = fuA l nm) ∧ l.length < n + k ∧ Hid (out.length ≤ k) ∧ Hid (wr.ownsRow W.heap.size 42 5 (.slice va out.length vc) out.length (out.flatMap cIN)) ∧ Hid (MpI wr W.heap.size c (psM ps)) ∧ Hid (c ≤ k) ∧ Hid (Below W.heap.size W wr)) (fun _ r _ => l.length + 1 - (intOf r).toNat)
  case atStart => exact ⟨0, none, 0, [], [], l.length + 1, 0, rfl, rfl, by omega, hid rfl, by omega, hid (by simp), hid (World.ownsRow_nil _ _ _ _), hid (MpI.new W), hid (by omega), hid (below_alloc _)⟩
  case round =>
    obtain ⟨k, va, vc, out, ps, n, c, rfl, rfl, hk, HN, hnk, HOL, HO, HMP, HC, hb⟩ := hrel
    have x0 := (HB0.out.kept hb.out).cellF
    have z0 := (HB0.out.kept hb.out).lt
    have x1 := (HB1.out.kept hb.out).cellF
    have z1 := (HB1.out.kept hb.out).lt
    by_cases hlt : k < l.length
    · have k1 : (k : Int) < (l.length : Int) := by omega
      obtain ⟨w1, hrun, HM1, hg⟩ := HMP.out.put (k := (k : Int)) (v := (out.length : Int)) (by have := HC.out; omega) (by unfold oI64; omega) (by unfold oI64; have := HOL.out; omega)
      have hnc : ∀ r, some W.heap.size = some r → ∃ o : Obj, wr.heap[r]? = some o ∧ o.isCells = false := fun r e => by
        cases e
        obtain ⟨Dm, ⟨es, ck, q1, q2⟩, -⟩ := HMP.out
        exact ⟨_, q1, rfl⟩
      have hb1 : Hid (Below W.heap.size W w1) := hid (hb.out.grown hg (by have := hb.out.size; omega) (fun q e => by cases e; exact Nat.le_refl _))
      have HO1 := hid (own_grown HO.out hg hnc)
      have HMN := hid HM1
      obtain ⟨n, rfl⟩ : ∃ n', n = n' + 1 := ⟨n - 1, by omega⟩
      have HFS := hid (fuN_step (nm := nm) (n := n) (out := out) (ps := ps) hlt)
      have y0 := (HB0.out.kept hb1.out).cellF
      have u0 := (HB0.out.kept hb1.out).lt
      have y1 := (HB1.out.kept hb1.out).cellF
      have u1 := (HB1.out.kept hb1.out).lt
      obtain ⟨b1, o1, rfl, hcc⟩ := row_of (HL.out.kept hb1.out) (by omega) (by omega)
      have c0 := hcc (k * 5 + 0) _ (flat_at (g := cIN) (K := 5) (fun _ => rfl) hlt (u := .int .i64 l[k].op) rfl)
      have c1 := hcc (k * 5 + 1) _ (flat_at (g := cIN) (K := 5) (fun _ => rfl) hlt (u := .int .i64 l[k].a) rfl)
      have c2 := hcc (k * 5 + 2) _ (flat_at (g := cIN) (K := 5) (fun _ => rfl) hlt (u := .int .i64 l[k].b) rfl)
      have c3 := hcc (k * 5 + 3) _ (flat_at (g := cIN) (K := 5) (fun _ => rfl) hlt (u := .int .i64 l[k].c) rfl)
      have c4 := hcc (k * 5 + 4) _ (flat_at (g := cIN) (K := 5) (fun _ => rfl) hlt (u := .int .i64 l[k].d) rfl)
      simp only [Nat.add_zero, ← Nat.add_assoc] at c0 c1 c2 c3 c4
      have hb5 := World.block_lt_of_cell? _ _ c0
      have HLX : Hid (l[k]? = some l[k]) := hid (List.getElem?_eq_getElem hlt)
      clear hg hnc HM1 hcc hb HO HMP
      generalize l[k] = x at *
      obtain ⟨xo, xa, xb, xc, xd⟩ := x
      dsimp only at c0 c1 c2 c3 c4
      have hbA : Hid (Below W.heap.size W (w1.alloc (.cells #[.int .i64 xo, .int .i64 xa, .int .i64 xb, .int .i64 xc, .int .i64 xd] 42))) := hid (below_trans hb1.out (below_alloc _))
      obtain ⟨a2, d2, W5, R5, O5, G5⟩ := appendPI W.heap.size (.slice va out.length vc) out ⟨xo, xa, xb, xc, xd⟩ (w1.alloc (.cells #[.int .i64 xo, .int .i64 xa, .int .i64 xb, .int .i64 xc, .int .i64 xd] 42)) (own_kept HO1.out (below_alloc _)) hbA.out.size (by have := HOL.out; omega)
      have eSZ : (w1.alloc (.cells #[.int .i64 xo, .int .i64 xa, .int .i64 xb, .int .i64 xc, .int .i64 xd] 42)).heap.size = w1.heap.size + 1 := by simp
      rw [eSZ] at R5
      clear eSZ
      have HM5 : Hid (MpI W5 W.heap.size (c + 1) (putM (psM ps) (k : Int) (out.length : Int))) := hid ((HMN.out.kept (below_alloc _)).same (G5.out.block _ (Nat.lt_of_lt_of_le HMN.out.lt (below_alloc (w := w1) _).size) (fun e => by
        obtain ⟨_, _, cur, q⟩ := own_type (own_kept HO1.out (below_alloc (w := w1) (.cells #[.int .i64 xo, .int .i64 xa, .int .i64 xb, .int .i64 xc, .int .i64 xd] 42))) e
        obtain ⟨Dm, ⟨es, ck, q1, q2⟩, -⟩ := HMN.out.kept (below_alloc (w := w1) (.cells #[.int .i64 xo, .int .i64 xa, .int .i64 xb, .int .i64 xc, .int .i64 xd] 42))
        rw [q1] at q
        cases q)))
      have HB5 : Hid (Below W.heap.size W W5) := hid (hbA.out.trans (G5.out.below hbA.out.size (fun k hk => (own_type (own_kept HO1.out (below_alloc (w := w1) (.cells #[.int .i64 xo, .int .i64 xa, .int .i64 xb, .int .i64 xc, .int .i64 xd] 42))) hk).1)))
      have HEND : Hid (fuZ nm l k = none → fuN nm l n (k + 1) (out ++ [⟨xo, xa, xb, xc, xd⟩]) (ps ++ [((k : Int), (out.length : Int))]) = fuA l nm) := hid fun hz => by
        rw [← HN.out, HFS.out, hz]
      by_cases hlt2 : k + 1 < l.length
      · have k3 : ((k : Int) + 1 < (l.length : Int)) = True := eq_true (by omega)
        have hk5 : k + 1 < nm.length := by rw [HLEN.out]; exact hlt2
        obtain ⟨g, rfl⟩ := (own_at0 HM.out).1 (by omega)
        obtain ⟨cm, -⟩ := own_cell0 (own_kept HM.out hb1.out) (cB_at nm (k + 1) hk5)
        have hgm := World.block_lt_of_cell? _ _ cm
        have k6 : ((k : Int) + 1 < (nm.length : Int)) := by omega
        have hw1 : IntKind.i64.wrap ((k : Int) + 1) = (k : Int) + 1 := by rw [IntKind.wrap_i64]; omega
        cases qn : nm[k + 1] with
        | true =>
          rw [qn] at cm
          have hz : fuZ nm l k = none := by
            unfold fuZ
            rw [List.getElem?_eq_getElem hk5, qn]
            cases l[k]? <;> cases l[k + 1]? <;> rfl
          have HE2 := hid (HEND.out hz)
          clear HEND HFS hz HN qn
          gi_wp2_with (first | (gi_at_builtin; refine wpListIn_append_ran rfl _ _ 22 22 rfl rfl _ _ (.slice a2 (out.length + 1) d2) W5 rfl rfl R5.out ?_))
          exact ⟨⟨k + 1, a2, d2, out ++ [⟨xo, xa, xb, xc, xd⟩], ps ++ [((k : Int), (out.length : Int))], n, c + 1, by simp, by simp, by omega, HE2, by omega, hid (by have := HOL.out; simp; omega), hid (by have q := O5.out; rw [List.length_append] at q ⊢; exact q), hid (by rw [psM_snoc]; exact HM5.out), hid (by have := HC.out; omega), HB5⟩, by simp [intOf]; omega⟩
        | false =>
          rw [qn] at cm
          obtain ⟨_, _, e9, hcc⟩ := row_of (HL.out.kept hb1.out) (by omega) (by omega)
          cases e9
          have d0 := hcc ((k + 1) * 5 + 0) _ (flat_at (g := cIN) (K := 5) (fun _ => rfl) hlt2 (u := .int .i64 l[k + 1].op) rfl)
          have d1 := hcc ((k + 1) * 5 + 1) _ (flat_at (g := cIN) (K := 5) (fun _ => rfl) hlt2 (u := .int .i64 l[k + 1].a) rfl)
          have d2' := hcc ((k + 1) * 5 + 2) _ (flat_at (g := cIN) (K := 5) (fun _ => rfl) hlt2 (u := .int .i64 l[k + 1].b) rfl)
          have d3 := hcc ((k + 1) * 5 + 3) _ (flat_at (g := cIN) (K := 5) (fun _ => rfl) hlt2 (u := .int .i64 l[k + 1].c) rfl)
          have d4 := hcc ((k + 1) * 5 + 4) _ (flat_at (g := cIN) (K := 5) (fun _ => rfl) hlt2 (u := .int .i64 l[k + 1].d) rfl)
          simp only [Nat.add_zero, ← Nat.add_assoc] at d0 d1 d2' d3 d4
          have HFZ : Hid (fuZ nm l k = oneI ⟨xo, xa, xb, xc, xd⟩ l[k + 1]) := hid (by
            unfold fuZ
            rw [List.getElem?_eq_getElem hk5, qn, List.getElem?_eq_getElem hlt2, HLX.out])
          generalize l[k + 1] = y at *
          obtain ⟨yo, ya, yb, yc, yd⟩ := y
          dsimp only at d0 d1 d2' d3 d4
          have HONE := hid fun W => oneT W ⟨xo, xa, xb, xc, xd⟩ ⟨yo, ya, yb, yc, yd⟩
          generalize oneI ⟨xo, xa, xb, xc, xd⟩ ⟨yo, ya, yb, yc, yd⟩ = zr at *
          unfold vIN at HONE
          dsimp only at HONE
          clear hcc qn
          have hx0 : (0 : Int) ≤ (k : Int) + 1 := by omega
          have hx1 : (k : Int) + 1 < (l.length : Int) := by omega
          gi_wp2
          refine wpIn_wide.2 ?_
          have hbs : Below w1.heap.size w1 (w1.alloc (.cells #[.int .i64 xo, .int .i64 xa, .int .i64 xb, .int .i64 xc, .int .i64 xd] 42)) := below_alloc _
          have BQ : Hid (Blk (w1.alloc (.cells #[.int .i64 xo, .int .i64 xa, .int .i64 xb, .int .i64 xc, .int .i64 xd] 42)) w1.heap.size 42 #[.int .i64 xo, .int .i64 xa, .int .i64 xb, .int .i64 xc, .int .i64 xd]) := hid (Blk.new _ _ _)
          have BP := hid (HB0.out.kept hbA.out)
          have HO2 := hid (own_kept HO1.out hbs)
          have HM2 := hid (HMN.out.kept hbs)
          replace d0 := cell_below d0 hbs
          replace d1 := cell_below d1 hbs
          replace d2' := cell_below d2' hbs
          replace d3 := cell_below d3 hbs
          replace d4 := cell_below d4 hbs
          have HOQ : Hid (∀ b, (Value.slice va out.length vc).ownBlock = some b → b < w1.heap.size) := hid (fun b e => (own_type HO1.out e).2.1)
          have hwq : W.heap.size < w1.heap.size := HMN.out.lt
          have hqs : w1.heap.size < (w1.alloc (.cells #[.int .i64 xo, .int .i64 xa, .int .i64 xb, .int .i64 xc, .int .i64 xd] 42)).heap.size := by simp
          clear R5 O5 G5 HM5 HB5 x0 x1 y0 y1 c0 c1 c2 c3 c4 cm hgm hb5 hrun u0 u1 z0 z1 hbs HO1 HMN hb1 hk5
          generalize w1.alloc (.cells #[.int .i64 xo, .int .i64 xa, .int .i64 xb, .int .i64 xc, .int .i64 xd] 42) = w2 at *
          generalize w1.heap.size = q at *
          have HSF : Hid (∀ W', Below w2.heap.size w2 W' → W'.cell? ⟨q, 0, none⟩ = some (.int .i64 xo) ∧ W'.cell? ⟨q, 1, none⟩ = some (.int .i64 xa) ∧ W'.cell? ⟨q, 2, none⟩ = some (.int .i64 xb) ∧ W'.cell? ⟨q, 3, none⟩ = some (.int .i64 xc) ∧ W'.cell? ⟨q, 4, none⟩ = some (.int .i64 xd) ∧ W'.cell? ⟨p0, 0, none⟩ = some (.slice (some ⟨b1, o1, none⟩) l.length lc) ∧ W'.cell? ⟨b1, o1 + (k + 1) * 5, none⟩ = some (.int .i64 yo) ∧ W'.cell? ⟨b1, o1 + (k + 1) * 5 + 1, none⟩ = some (.int .i64 ya) ∧ W'.cell? ⟨b1, o1 + (k + 1) * 5 + 2, none⟩ = some (.int .i64 yb) ∧ W'.cell? ⟨b1, o1 + (k + 1) * 5 + 3, none⟩ = some (.int .i64 yc) ∧ W'.cell? ⟨b1, o1 + (k + 1) * 5 + 4, none⟩ = some (.int .i64 yd)) := hid (fun W' hW => ⟨(BQ.out.kept hW).cell 0 _ rfl, (BQ.out.kept hW).cell 1 _ rfl, (BQ.out.kept hW).cell 2 _ rfl, (BQ.out.kept hW).cell 3 _ rfl, (BQ.out.kept hW).cell 4 _ rfl, (BP.out.kept hW).cell 0 _ rfl, cell_below d0 hW, cell_below d1 hW, cell_below d2' hW, cell_below d3 hW, cell_below d4 hW⟩)
          have HW : Hid (Below w2.heap.size w2 w2) := hid (Below.refl _ _)
          clear d0 d1 d2' d3 d4
          cases zr with
          | none =>
            dsimp only [Option.getD, Option.isSome, inZ] at HONE
            go_region_held3 (fun W' => W'.cell? ⟨q, 0, none⟩ = some (.int .i64 xo) ∧ W'.cell? ⟨q, 1, none⟩ = some (.int .i64 xa) ∧ W'.cell? ⟨q, 2, none⟩ = some (.int .i64 xb) ∧ W'.cell? ⟨q, 3, none⟩ = some (.int .i64 xc) ∧ W'.cell? ⟨q, 4, none⟩ = some (.int .i64 xd) ∧ W'.cell? ⟨p0, 0, none⟩ = some (.slice (some ⟨b1, o1, none⟩) l.length lc) ∧ W'.cell? ⟨b1, o1 + (k + 1) * 5, none⟩ = some (.int .i64 yo) ∧ W'.cell? ⟨b1, o1 + (k + 1) * 5 + 1, none⟩ = some (.int .i64 ya) ∧ W'.cell? ⟨b1, o1 + (k + 1) * 5 + 2, none⟩ = some (.int .i64 yb) ∧ W'.cell? ⟨b1, o1 + (k + 1) * 5 + 3, none⟩ = some (.int .i64 yc) ∧ W'.cell? ⟨b1, o1 + (k + 1) * 5 + 4, none⟩ = some (.int .i64 yd)) (exact HSF.out _ (by have := HW.out; exact blBy)) (first | (go_at_call 46; refine (HONE.out (World.drew (World.alloc _ (.cells _ _)))).mono ?_; rintro e u ⟨rfl, hbu⟩; have B3 : Hid (Blk u w2.heap.size 42 #[.int .i64 0, .int .i64 0, .int .i64 0, .int .i64 0, .int .i64 0]) := hid (((Blk.new w2 _ _).kept (below_drew1 _)).kept hbu); have x3 := B3.out.cellF; have y3 := B3.out.frz; have z3 := B3.out.lt; replace HW := hid (below_trans HW.out (below_trans (by exact blBy) hbu)); clear hbu) | (go_at_call 46; refine (HONE.out _).mono ?_; rintro e u ⟨rfl, hbu⟩; replace HW := hid (below_trans HW.out (below_trans (by exact blBy) hbu)); clear hbu))
            all_goals (
              refine exitGen (w2 := w2) (by have := HW.out; exact blBy) ?_
              intro W' hW'
              obtain ⟨a2, d2, W5, R5, O5, HM5, HB5⟩ := fuApp W'.heap.size W W' va vc out ⟨xo, xa, xb, xc, xd⟩ (c + 1) _ (own_kept HO2.out hW') (HM2.out.kept hW') (hbA.out.trans (hW'.mono hbA.out.size)) (by have := HOL.out; omega) rfl
              obtain ⟨c0, c1, c2, c3, c4, -⟩ := HSF.out W' hW'
              have HE2 := hid (HEND.out HFZ.out)
              clear HSF HW BQ BP HO2 HM2 hqs HEND HFS HONE hbA HFZ HN hW'
              gi_wp2_with (first | (gi_at_builtin; refine wpListIn_append_ran rfl _ _ 22 22 rfl rfl _ _ (.slice a2 (out.length + 1) d2) W5 rfl rfl R5.out ?_))
              exact ⟨⟨k + 1, a2, d2, out ++ [⟨xo, xa, xb, xc, xd⟩], ps ++ [((k : Int), (out.length : Int))], n, c + 1, by simp, by simp, by omega, HE2, by omega, hid (by have := HOL.out; simp; omega), O5, hid (by rw [psM_snoc]; exact HM5.out), hid (by have := HC.out; omega), HB5⟩, by simp [intOf]; omega⟩)
          | some z =>
            obtain ⟨zo, za, zb, zc, zd⟩ := z
            dsimp only [Option.getD, Option.isSome] at HONE
            go_region_held3 (fun W' => W'.cell? ⟨q, 0, none⟩ = some (.int .i64 xo) ∧ W'.cell? ⟨q, 1, none⟩ = some (.int .i64 xa) ∧ W'.cell? ⟨q, 2, none⟩ = some (.int .i64 xb) ∧ W'.cell? ⟨q, 3, none⟩ = some (.int .i64 xc) ∧ W'.cell? ⟨q, 4, none⟩ = some (.int .i64 xd) ∧ W'.cell? ⟨p0, 0, none⟩ = some (.slice (some ⟨b1, o1, none⟩) l.length lc) ∧ W'.cell? ⟨b1, o1 + (k + 1) * 5, none⟩ = some (.int .i64 yo) ∧ W'.cell? ⟨b1, o1 + (k + 1) * 5 + 1, none⟩ = some (.int .i64 ya) ∧ W'.cell? ⟨b1, o1 + (k + 1) * 5 + 2, none⟩ = some (.int .i64 yb) ∧ W'.cell? ⟨b1, o1 + (k + 1) * 5 + 3, none⟩ = some (.int .i64 yc) ∧ W'.cell? ⟨b1, o1 + (k + 1) * 5 + 4, none⟩ = some (.int .i64 yd)) (exact HSF.out _ (by have := HW.out; exact blBy)) (first | (go_at_call 46; refine (HONE.out (World.drew (World.alloc _ (.cells _ _)))).mono ?_; rintro e u ⟨rfl, hbu⟩; have B3 : Hid (Blk u w2.heap.size 42 #[.int .i64 0, .int .i64 0, .int .i64 0, .int .i64 0, .int .i64 0]) := hid (((Blk.new w2 _ _).kept (below_drew1 _)).kept hbu); have x3 := B3.out.cellF; have y3 := B3.out.frz; have z3 := B3.out.lt; replace HW := hid (below_trans HW.out (below_trans (by exact blBy) hbu)); clear hbu) | (go_at_call 46; refine (HONE.out _).mono ?_; rintro e u ⟨rfl, hbu⟩; replace HW := hid (below_trans HW.out (below_trans (by exact blBy) hbu)); clear hbu))
            all_goals (first
              | refine exitGen2 (w2 := w2) w2.heap.size 42 #[.int .i64 zo, .int .i64 za, .int .i64 zb, .int .i64 zc, .int .i64 zd] (by have := HW.out; exact blBy) (Nat.le_refl _) B3.out.set5 ?_
              | refine exitGen2 (w2 := w2) u.heap.size 42 #[.int .i64 zo, .int .i64 za, .int .i64 zb, .int .i64 zc, .int .i64 zd] (by have := HW.out; exact blBy) HW.out.size (Blk.new _ _ _) ?_)
            all_goals (
              intro W' hW' hp HBp
              have hz := HBp.cellF
              have BQ2 := BQ.out.kept hW'
              have hqc := BQ2.cellF
              have hqf := BQ2.frz
              have hqp := Nat.lt_of_lt_of_le hqs hp
              have HSZ := hW'.size
              have hS := fun (a b c d e : Value) => setQ5 (a := a) (b := b) (c := c) (d := d) (e := e) BQ2
              obtain ⟨a2, d2, W5, R5, O5, HM5, HB5⟩ := fuApp W'.heap.size W (((((W'.setCell ⟨q, 0, none⟩ (.int .i64 zo)).setCell ⟨q, 1, none⟩ (.int .i64 za)).setCell ⟨q, 2, none⟩ (.int .i64 zb)).setCell ⟨q, 3, none⟩ (.int .i64 zc)).setCell ⟨q, 4, none⟩ (.int .i64 zd)) va vc out ⟨zo, za, zb, zc, zd⟩ (c + 1) _ (own_keep (own_kept HO2.out hW') (fun k hk => by have := HOQ.out k hk; show k ≠ q; omega) (hS _ _ _ _ _)) ((HM2.out.kept hW').keep (hS _ _ _ _ _) (by show W.heap.size ≠ q; omega)) (by have := hbA.out.trans (hW'.mono hbA.out.size); exact blBy) (by have := HOL.out; omega) (by simp)
              have HE2 : Hid (fuN nm l n (k + 2) (out ++ [⟨zo, za, zb, zc, zd⟩]) (ps ++ [((k : Int), (out.length : Int))]) = fuA l nm) := hid (by rw [← HN.out, HFS.out, HFZ.out])
              clear HSF HW BQ BP HO2 HM2 HEND HFS HONE hbA HFZ HN hW' HOQ hS HBp BQ2
              gi_wp2_with (first | (gi_at_builtin; refine wpListIn_append_ran rfl _ _ 22 22 rfl rfl _ _ (.slice a2 (out.length + 1) d2) W5 rfl rfl R5.out ?_))
              exact ⟨⟨k + 2, a2, d2, out ++ [⟨zo, za, zb, zc, zd⟩], ps ++ [((k : Int), (out.length : Int))], n, c + 1, by simp, by simp; omega, by omega, HE2, by omega, hid (by have := HOL.out; simp; omega), O5, hid (by rw [psM_snoc]; exact HM5.out), hid (by have := HC.out; omega), HB5⟩, by simp [intOf]; omega⟩)
      · have k2 : ¬ ((k : Int) + 1 < (l.length : Int)) := by omega
        have k3 : ((k : Int) + 1 < (l.length : Int)) = False := eq_false k2
        have hz : fuZ nm l k = none := by
          unfold fuZ
          have h0 : l[k + 1]? = none := List.getElem?_eq_none (by omega)
          rw [h0]
          cases l[k]? <;> rfl
        have HE2 := hid (HEND.out hz)
        clear HEND HFS hz HN
        gi_wp2_with (first | (gi_at_builtin; refine wpListIn_append_ran rfl _ _ 22 22 rfl rfl _ _ (.slice a2 (out.length + 1) d2) W5 rfl rfl R5.out ?_))
        exact ⟨⟨k + 1, a2, d2, out ++ [⟨xo, xa, xb, xc, xd⟩], ps ++ [((k : Int), (out.length : Int))], n, c + 1, by simp, by simp, by omega, HE2, by omega, hid (by have := HOL.out; simp; omega), hid (by have q := O5.out; rw [List.length_append] at q ⊢; exact q), hid (by rw [psM_snoc]; exact HM5.out), hid (by have := HC.out; omega), HB5⟩, by simp [intOf]; omega⟩
    · have k1 : ¬ (k : Int) < (l.length : Int) := by omega
      have HE : Hid (fuA l nm = (out, ps)) := hid (by rw [← HN.out, fuN_end (by omega)])
      have HD2 : Hid (wr.heap[D]? = some (.deferred (some []))) := hid ((hb.out.block D (Array.getElem?_eq_some_iff.1 HD.out).1).trans HD.out)
      have hDW : D < W.heap.size := (Array.getElem?_eq_some_iff.1 HD.out).1
      have HKP := hid (keep_put wr D (.deferred none))
      have HFI := hid (HR.out va vc W.heap.size c (wr.putObj D (.deferred none)) (Keep.trans ⟨hb.out.os, hb.out.tape, hb.out.output, hb.out.size, fun k hk _ => hb.out.block k hk⟩ HKP.out))
      rw [HE.out] at HFI
      have HOF := hid (own_keep (f := fun k => k ≠ D) HO.out (fun k hk => by have := (own_type HO.out hk).1; omega) HKP.out)
      have HMF := hid (HMP.out.keep HKP.out (show W.heap.size ≠ D by omega))
      gi_wp2
      exact leave_one 3 HD2.out ⟨.tuple #[.slice va out.length vc, .map (some W.heap.size)], by simp [results, Try.results27, go_sem], HFI.out HOF.out HMF.out (Nat.le_refl _)⟩
attribute [local go_sem] Oper.semAt_some
theorem fusedT (w0 w : World) (h0 : Below w0.heap.size w0 w) (l : List IN) (rows : List LN) (la ra ma : Option Addr) (lc rc mc : Nat) (hl : RowS w0 AnyZ 5 (.slice la l.length lc) l.length (l.flatMap cIN)) (hr : RowS w0 AnyZ 2 (.slice ra rows.length rc) rows.length (rows.flatMap cLN)) (bs : List Bool) (hm : w.ownsRow w0.heap.size 4 1 (.slice ma bs.length mc) bs.length (bs.flatMap cB)) (hb : bs.length = l.length) (hn : l.length ≤ 1048576) : Calls Try.prog 27 #[.slice la l.length lc, .slice ra rows.length rc, .slice ma bs.length mc] w fun e w' => ∃ va vc b n, e = .returned (.tuple #[.slice va (fuA l (mkA bs (nmV l rows))).1.length vc, .map (some b)]) ∧ w'.ownsRow w.heap.size 42 5 (.slice va (fuA l (mkA bs (nmV l rows))).1.length vc) (fuA l (mkA bs (nmV l rows))).1.length ((fuA l (mkA bs (nmV l rows))).1.flatMap cIN) ∧ MpI w' b n (psM (fuA l (mkA bs (nmV l rows))).2) ∧ w.heap.size ≤ b ∧ Keep (fun k => ma.map (·.block) ≠ some k) w w' ∧ w'.ownsRow w0.heap.size 4 1 (.slice ma (mkA bs (nmV l rows)).length mc) (mkA bs (nmV l rows)).length ((mkA bs (nmV l rows)).flatMap cB) := by
  obtain ⟨hma, -⟩ := own_at0 hm
  obtain ⟨_, _, e, m2⟩ := rowS_sl hr
  clear e
  have m1 : l.length ≤ 9223372036854775807 := by omega
  have hMB : ∀ k, ma.map (·.block) = some k → w0.heap.size ≤ k ∧ k < w.heap.size := fun k e => by
    cases ma with
    | none => cases e
    | some a => exact ⟨(own_type hm (k := k) e).1, (own_type hm (k := k) e).2.1⟩
  have HPV := hid fun W (hW : Below w0.heap.size w0 W) => pv_map (hl.kept hW) (hr.kept hW)
  have H0 := hid h0
  have HL := hid hl
  have HR := hid hr
  have HM := hid hm
  have HMA := hid hma
  have HBL := hid hb
  clear h0 hl hr hm hma hb
  refine callsIn_wide (n := 3) |>.1 ?_
  refine callsIn_of_wp_marks Try.func27 rfl trivial ?_ rfl
  simp only [Try.ntmps27, List.size_toArray, List.length_cons, List.length_nil, Nat.reduceAdd, Nat.reduceSub, Array.replicate_succ, Array.replicate_zero, List.push_toArray, List.append_toArray, List.nil_append, List.cons_append]
  gi_wp2_with fail
  refine ⟨trivial, (callsIn_wide.2 (namedT _ la ra l.length rows.length lc rc)).mono ?_⟩
  rintro e w3 ⟨rfl, hw3⟩
  have e1 : ((w.alloc (.cells #[.slice la l.length lc] 22)).alloc (.cells #[.slice ma bs.length mc] 68)).heap.size = w.heap.size + 1 + 1 := by simp
  rw [e1]
  have BL : Blk w3 w.heap.size 22 #[.slice la l.length lc] := by rw [hw3]; exact (((Blk.new _ _ _).kept (below_alloc _)).kept (below_alloc _)).kept (below_alloc _)
  have BM : Blk w3 (w.heap.size + 1) 68 #[.slice ma bs.length mc] := by rw [hw3]; exact ((Blk.newAt (by simp)).kept (below_alloc _)).kept (below_alloc _)
  have B1 : Blk w3 (w.heap.size + 1 + 1) 22 #[.slice la l.length lc] := by rw [hw3]; exact (Blk.newAt (by simp)).kept (below_alloc _)
  have B2 : Blk w3 (w.heap.size + 1 + 1 + 1) 23 #[.slice ra rows.length rc] := by rw [hw3]; exact Blk.newAt (by simp)
  have hb3 : Hid (Below w.heap.size w w3) := hid (by rw [hw3]; exact blBy)
  have hs3 : w.heap.size + 4 ≤ w3.heap.size := by rw [hw3]; simp
  clear hw3 e1
  replace HM := hid (own_kept HM.out hb3.out)
  have H03 : Hid (Below w0.heap.size w0 w3) := hid (H0.out.trans (hb3.out.mono H0.out.size))
  have hw0 : w0.heap.size ≤ w.heap.size := H0.out.size
  obtain ⟨f, hf⟩ : ∃ f : Nat → Prop, f = fun k => k < w3.heap.size ∧ ma.map (·.block) ≠ some k := ⟨_, rfl⟩
  have HFS : Hid (∀ k, f k → k < w3.heap.size) := hid fun k h => by rw [hf] at h; exact h.1
  have HFB : Hid (∀ k, w.heap.size ≤ k → k < w3.heap.size → f k) := hid fun k h1 h2 => by
    rw [hf]
    exact ⟨h2, fun e => by have := (hMB k e).2; omega⟩
  have HF0 : Hid (∀ k, k < w0.heap.size → f k) := hid fun k h1 => by
    rw [hf]
    exact ⟨by omega, fun e => by have := (hMB k e).1; omega⟩
  have HFN : Hid (∀ g, ma.map (·.block) = some g → ¬ f g) := hid fun g h => by
    rw [hf]
    rintro ⟨_, q1⟩
    exact q1 h
  have HKF : Hid (∀ W, Keep f w3 W → Keep (fun k => ma.map (·.block) ≠ some k) w W) := hid fun W h => by
    refine ⟨h.os.trans hb3.out.os, h.tape.trans hb3.out.tape, h.output.trans hb3.out.output, Nat.le_trans hb3.out.size h.size, fun k hk hq => ?_⟩
    refine (h.block k (Nat.lt_of_lt_of_le hk hb3.out.size) ?_).trans (hb3.out.block k hk)
    rw [hf]
    exact ⟨Nat.lt_of_lt_of_le hk hb3.out.size, hq⟩
  have HST : Hid (MkS f w3 w0.heap.size ma mc bs [] w3) := hid ⟨Keep.refl _ _, HM.out⟩
  have HOP := hid (opC_row (HL.out.kept H03.out))
  have hq1 : ∀ h : 0 < l.length, ∃ b o, la = some ⟨b, o, none⟩ := fun h => by obtain ⟨b, o, e, -⟩ := row_of HL.out h (by omega); exact ⟨b, o, e⟩
  have hq2 : ∀ h : 0 < rows.length, ∃ b o, ra = some ⟨b, o, none⟩ := fun h => by obtain ⟨b, o, e, -⟩ := row_of HR.out h (by omega); exact ⟨b, o, e⟩
  have HSEQ := hid (namedIn f w3 (3 - 1) (by omega) (w.heap.size + 1 + 1) (w.heap.size + 1 + 1 + 1) l rows la ra lc rc B1 B2 (HFB.out _ (by omega) (by omega)) (HFB.out _ (by omega) (by omega)) HOP.out hq1 hq2 m1 m2)
  obtain ⟨pv1, pv2⟩ := HPV.out w3 H03.out
  obtain ⟨pw1, pw2⟩ := HPV.out w0 (Below.refl _ _)
  have HP1 := hid pv1
  have HP2 : Hid (∀ x ∈ nmL la l ra rows, ∃ v, w3.cell? x.2 = some (.int .i64 v) ∧ f x.2.block) := hid fun x hx => by
    obtain ⟨v, e⟩ := pv2 x hx
    obtain ⟨v0, e0⟩ := pw2 x hx
    refine ⟨v, e, HF0.out _ ?_⟩
    rw [← Nat.not_le]
    intro q
    unfold World.cell? at e0
    rw [Array.getElem?_eq_none q] at e0
    cases e0
  clear hf hq1 hq2 B1 B2 pv1 pv2 pw1 pw2 hMB HPV HM
  gi_wp2_with fail
  refine wpIn_rangeFunc_ownH rfl (by omega) (gf := 44) (lb := #[.pointer (some ⟨w.heap.size + 1 + 1, 0, none⟩), .pointer (some ⟨w.heap.size + 1 + 1 + 1, 0, none⟩)]) rfl trivial cfNamed HSEQ.out KpN.trans (kpN_b HFS.out) (Below.refl _ _) (fun _ => rfl)
    (fun pre W' => MkS f w3 w0.heap.size ma mc bs (pre.map (fun y => y.1)) W') (fun c pre W' => False) (own_MkS HFS.out) (fun c => ownFrom_pure _ _) HST.out
    (fun z a' W' => a' = { tmps := #[.slice la l.length lc, .slice ra rows.length rc, .slice ma bs.length mc, .pointer (some ⟨w.heap.size, 0, none⟩), undef, .pointer (some ⟨w.heap.size + 1, 0, none⟩), .slice none 0 0, .map none, undef, .pointer (some z.1.2), undef, undef, undef, undef, undef, undef, .slice la l.length lc, .slice ra rows.length rc, .func (.func 44) #[] #[.pointer (some ⟨w.heap.size + 1 + 1, 0, none⟩), .pointer (some ⟨w.heap.size + 1 + 1 + 1, 0, none⟩)], .int .i64 z.1.1, .pointer (some z.1.2), undef, undef, undef, undef, undef, undef, undef, undef, undef, undef, undef, undef, undef, undef, undef, undef, undef, undef, undef, undef, undef, undef, undef, undef, undef, undef, undef, undef, undef, undef, undef, undef, undef, undef, undef, undef, undef, undef, undef, undef, undef, undef, undef, undef, undef, undef, undef, undef, undef, undef, undef, undef, undef, undef, undef, undef, undef, undef, undef, undef, undef, undef, undef, undef, undef], defers := [] }) (fun x a' => ownFrom_pure _ _)
    ?assign ?body ?done ?stop
  case assign =>
    rintro q pre z W' K hI hK
    dsimp only [encN] at hK ⊢
    gi_wp2
    exact hK _ _ (KeepsFrom.refl _ _) ⟨Keep.refl _ _, fun h => h⟩ hI rfl
  case body =>
    rintro q pre z a' W' hl ⟨r, hr⟩ hI rfl hlt
    have hD : Below W'.heap.size W' W'.drew := below_drew1 _
    have hD2 : Below W'.heap.size W' W'.drew.drew := below_trans hD (below_drew1 _)
    have hI1 : MkS f w3 w0.heap.size ma mc bs (pre.map (fun y => y.1)) W'.drew := ⟨kpBl hI.kp hD, own_kept hI.o hD⟩
    have hI2 : MkS f w3 w0.heap.size ma mc bs (pre.map (fun y => y.1)) W'.drew.drew := ⟨kpBl hI.kp hD2, own_kept hI.o hD2⟩
    obtain ⟨v, hc, hfx⟩ := HP2.out z.1 z.2
    obtain ⟨c0', n1, -⟩ := hI1.step hc hfx HFN.out HMA.out
    obtain ⟨-, -, n2⟩ := hI2.step hc hfx HFN.out HMA.out
    have c0 : W'.cell? z.1.2 = some (.int .i64 v) := c0'
    have N1 := hid n1
    have N2 := hid n2
    have BLW := BL.keep hI.kp (HFB.out _ (Nat.le_refl _) (by omega))
    have BMW := BM.keep hI.kp (HFB.out _ (by omega) (by omega))
    have xb := BLW.cellF
    have zb := BLW.lt
    have xm := BMW.cellF
    have zm := BMW.lt
    have HKD : Hid (KeepsFrom w3.heap.size W' W'.drew) := hid ⟨hD.size, fun k o h1 hk _ => hk⟩
    have HKpD : Hid (KpN f la l W' W'.drew) := hid ⟨Keep.ofBelow hD, fun h => h⟩
    have HKD2 : Hid (KeepsFrom w3.heap.size W' W'.drew.drew) := hid ⟨hD2.size, fun k o h1 hk _ => hk⟩
    have HKpD2 : Hid (KpN f la l W' W'.drew.drew) := hid ⟨Keep.ofBelow hD2, fun h => h⟩
    clear hI hI1 hI2 n1 n2 c0' hD hD2 BLW BMW hc hfx
    obtain ⟨⟨zo, za⟩, hz⟩ := z
    dsimp only at *
    by_cases g0 : 0 ≤ v
    · have k0 : (0 ≤ v) = True := eq_true g0
      by_cases g1 : v < (l.length : Int)
      · have k1 : (v < (l.length : Int)) = True := eq_true g1
        have HT : Hid (∃ k : Nat, v = k ∧ k < l.length) := hid ⟨v.toNat, by omega, by omega⟩
        obtain ⟨k, rfl, hk⟩ := HT.out
        obtain ⟨g, rfl, ⟨b0, cb⟩, cf, hS, hkp, hne⟩ := N2.out k rfl (by rw [HBL.out]; exact hk)
        have HS := hid hS
        have HKP := hid hkp
        have HOK : Hid (OpC la l W' → OpC la l (W'.drew.drew.setCell ⟨g, k, none⟩ (.bool true))) := hid fun ho i hi => by
          have c := ho i hi
          have hg1 : (adr la (i * 5) 0).block ≠ g := fun e => by
            obtain ⟨b, o, rfl, hcc⟩ := row_of HL.out (by omega) (by omega)
            have hb4 := World.block_lt_of_cell? _ _ (hcc 0 _ (flat_at (g := cIN) (K := 5) (i := 0) (j := 0) (fun _ => rfl) (by omega) rfl))
            exact HFN.out g rfl (HF0.out g (by rw [← e]; exact hb4))
          have hs := Below.heap_setCell W'.drew.drew ⟨g, k, none⟩ (.bool true) _ hg1
          unfold World.cell? at c ⊢
          rw [hs]
          exact c
        have hk3 : (k : Int) < (bs.length : Int) := by rw [HBL.out]; omega
        clear HT N1 N2 hS hkp hk
        gi_wp2
        gi_region_with (fail)
        all_goals gi_wp2
        all_goals gi_region_with (fail)
        all_goals gi_wp2
        all_goals exact ⟨HKD2.out.trans ((KeepsOthers.setCell _ _ _).from _), ⟨HKpD2.out.1.trans HKP.out, HOK.out⟩, by show MkS _ _ _ _ _ _ (List.map _ (_ ++ _)) _; rw [List.map_append]; exact HS.out⟩
      · have k1 : (v < (l.length : Int)) = False := eq_false g1
        have HS := hid (N1.out (by rw [HBL.out]; omega))
        clear N1 N2
        gi_wp2
        gi_region_with (fail)
        all_goals gi_wp2
        all_goals exact ⟨HKD.out, HKpD.out, by show MkS _ _ _ _ _ _ (List.map _ (_ ++ _)) _; rw [List.map_append]; exact HS.out⟩
    · have k0 : (0 ≤ v) = False := eq_false g0
      have HS := hid (N1.out (by omega))
      clear N1 N2
      gi_wp2
      gi_region_with (fail)
      all_goals gi_wp2
      all_goals exact ⟨HKD.out, HKpD.out, by show MkS _ _ _ _ _ _ (List.map _ (_ ++ _)) _; rw [List.map_append]; exact HS.out⟩
  case done =>
    rintro D xs W' hD hS hI hK
    rw [hS] at hI
    obtain ⟨hkp, ho⟩ := hI
    rw [HP1.out] at ho
    have hDs : D ≠ w.heap.size ∧ D ≠ w.heap.size + 1 := by omega
    have hB0 : Below w0.heap.size w0 W' := by
      refine ⟨hkp.os.trans H03.out.os, hkp.tape.trans H03.out.tape, hkp.output.trans H03.out.output, Nat.le_trans H03.out.size hkp.size, fun k hk => ?_⟩
      exact (hkp.block k (Nat.lt_of_lt_of_le hk H03.out.size) (HF0.out k hk)).trans (H03.out.block k hk)
    have hlen : (mkA bs (nmV l rows)).length = l.length := by rw [mkA_len]; exact HBL.out
    have b0 : Blk W' w.heap.size 22 #[.slice la l.length lc] := (hkp.block _ BL.lt (HFB.out _ (by omega) (by omega))).trans BL
    have b1 : Blk W' (w.heap.size + 1) 68 #[.slice ma (mkA bs (nmV l rows)).length mc] := by
      rw [mkA_len]
      exact (hkp.block _ BM.lt (HFB.out _ (by omega) (by omega))).trans BM
    have hKW := HKF.out W' hkp
    have hDm : D < W'.heap.size := (Array.getElem?_eq_some_iff.1 hK).1
    rename_i aX
    refine aX _ _ (fuRestW W' l la ma lc mc w.heap.size (w.heap.size + 1) D w0.heap.size (mkA bs (nmV l rows)) _ (HL.out.kept hB0) ho hlen hn b0 b1 hK ?_ _ _ _ _ _)
    intro va vc b n W2 hk2 ho2 hm2 hb2
    refine ⟨va, vc, b, n, rfl, own_mono ho2 (Nat.le_trans hb3.out.size hkp.size), hm2, by have := hkp.size; have := hb3.out.size; omega, ?_, own_keep (f := fun k => k ≠ D) ho (fun k hk he => by obtain ⟨_, _, cur, q⟩ := own_type ho hk; rw [he, hK] at q; cases q) hk2⟩
    refine ⟨hk2.os.trans hKW.os, hk2.tape.trans hKW.tape, hk2.output.trans hKW.output, Nat.le_trans hKW.size hk2.size, fun k hk hq => ?_⟩
    refine (hk2.block k (Nat.lt_of_lt_of_le hk hKW.size) (by show k ≠ D; omega)).trans (hKW.block k hk hq)
  case stop =>
    rintro D c pre W' hD hSp hF hK
    exact hF.elim
theorem cB_rep (n : Nat) : (List.replicate n false).flatMap cB = List.replicate n (Value.bool false) := by
  induction n with
  | zero => rfl
  | succ n ih => rw [List.replicate_succ, List.replicate_succ, List.flatMap_cons, ih]; rfl
/-- Marks, all of them none. -/
def MC (w : World) (g N : Nat) : Prop := ∃ cs : Array Value, Blk w g 4 cs ∧ cs.toList = List.replicate N (Value.bool false)
def MD (w : World) (g N : Nat) : Prop := ∃ cs : Array Value, Blk w g 4 cs ∧ cs.size = N
theorem MC.md {w : World} {g N : Nat} (h : MC w g N) : MD w g N := by
  obtain ⟨cs, h1, h2⟩ := h
  exact ⟨cs, h1, by rw [← Array.length_toList, h2]; simp⟩
theorem MC.keep {f : Nat → Prop} {w w' : World} {g N : Nat} (h : MC w g N) (hk : Keep f w w') (hf : f g) : MC w' g N := by
  obtain ⟨cs, h1, h2⟩ := h
  exact ⟨cs, h1.keep hk hf, h2⟩
theorem MD.keep {f : Nat → Prop} {w w' : World} {g N : Nat} (h : MD w g N) (hk : Keep f w w') (hf : f g) : MD w' g N := by
  obtain ⟨cs, h1, h2⟩ := h
  exact ⟨cs, h1.keep hk hf, h2⟩
theorem MC.own {w : World} {g N k base : Nat} (h : MC w g N) (hk : k ≤ N) (hN : N ≤ 1048576) (hb : base ≤ g) : w.ownsRow base 4 1 (.slice (some ⟨g, 0, none⟩) k N) k ((List.replicate k false).flatMap cB) := by
  obtain ⟨cs, h1, h2⟩ := h
  have hs : cs.size = N := by rw [← Array.length_toList, h2]; simp
  refine ⟨by rw [cB_rep]; simp, .inr ⟨g, N, cs, rfl, hb, h1, hk, by unfold maxLen; omega, by omega, ?_⟩⟩
  rw [cB_rep, h2, List.take_replicate]
  congr 1
  omega
theorem md_own {w : World} {g N k base : Nat} {fl : List Value} (h : w.ownsRow base 4 1 (.slice (some ⟨g, 0, none⟩) k N) k fl) : MD w g N := by
  rcases h.2 with ⟨e, _⟩ | ⟨g', cap', cur, e, hbg, hgg, hnc, hcm, hcs, htk⟩
  · cases e
  · cases e
    exact ⟨cur, hgg, by omega⟩
theorem MC.new (W : World) (n : Nat) : MC (W.alloc (.cells (madeCells #[.bool false] n) 4)) W.heap.size n := ⟨_, Blk.new _ _ _, toList_madeCells_one _ _⟩
theorem mk_marks (W : World) (n : Nat) (hn : n ≤ 1048576) : (Instr.makeSlice 68 (.int .i64 (n : Int)) (.int .i64 (n : Int))).run Try.prog W = .ok (.slice (some ⟨W.heap.size, 0, none⟩) n n) (W.alloc (.cells (madeCells #[.bool false] n) 4)) := by
  obtain ⟨i, hi, hz0, hz1, hz2⟩ := info_parts (show (Try.prog.info? 4).map (fun i => (i.zero, i.size, i.bytes)) = some (some (.bool false), 1, 1) by kernel_rfl)
  have h := run_makeSlice (P := Try.prog) (w := W) 68 4 i (.bool false) (by kernel_rfl) hi hz0 .i64 .i64 (n : Int) (n : Int) (by omega) (Int.le_refl _) (by rw [hz1]; simp; omega) (by rw [hz2]; omega) (by omega)
  simp only [Int.toNat_natCast, hz1, Nat.mul_one] at h
  exact h
theorem keep_setCells {b : Nat} : ∀ (vs : List Value) (o : Nat) (w : World), Keep (· ≠ b) w (w.setCells b o vs)
  | [], _, w => Keep.refl _ _
  | v :: r, o, w => (Keep.setCell w ⟨b, o, none⟩ v (by simp)).trans (keep_setCells r (o + 1) _)
theorem blk_setCells {b : Nat} {T : TypeId} : ∀ (vs : List Value) (o : Nat) (w : World) (cs : Array Value), Blk w b T cs → ∃ cs', Blk (w.setCells b o vs) b T cs' ∧ cs'.size = cs.size
  | [], _, w, cs, h => ⟨cs, h, rfl⟩
  | v :: r, o, w, cs, h => by
    obtain ⟨cs', h1, h2⟩ := blk_setCells r (o + 1) (w.setCell ⟨b, o, none⟩ v) _ (h.set o v)
    exact ⟨cs', h1, by rw [h2]; simp⟩
theorem md_clear {u : World} {g N : Nat} (h : MD u g N) : ∃ u', Hid (∀ ty, (Builtin.clear_ #[68] ty #[.slice (some ⟨g, 0, none⟩) N N]).run Try.prog u = .ok (.tuple #[]) u') ∧ Hid (MC u' g N) ∧ Hid (Keep (· ≠ g) u u') := by
  obtain ⟨cs, h1, h2⟩ := h
  by_cases h0 : N = 0
  · subst h0
    refine ⟨u, hid (fun ty => ?_), hid ⟨cs, h1, ?_⟩, hid (Keep.refl _ _)⟩
    · have hu : Try.prog.underlying 68 = some (.slice 4) := by kernel_rfl
      simp [Builtin.clear_, run_underlying hu]
    · have := List.eq_nil_of_length_eq_zero (l := cs.toList) (by simpa using h2)
      rw [this]
      rfl
  · have hc : ∀ j, j < N → (u.cell? ⟨g, 0 + j, none⟩).isSome = true := fun j hj => by
      rw [Nat.zero_add, h1.cellF j, Array.getElem?_eq_getElem (by omega)]; rfl
    refine ⟨_, hid (fun ty => Go.Lib.run_clear_slice u 68 4 ty (.bool false) (by kernel_rfl) (fun w => by obtain ⟨i, hi, hz, -⟩ := info_parts (show (Try.prog.info? 4).map (fun i => (i.zero, i.size, i.bytes)) = some (some (.bool false), 1, 1) by kernel_rfl); simp [zeroValue, typeInfo, hi, hz, go_sem]) rfl rfl g 0 N N (by omega) hc (fun j _ => h1.frozen _)), hid ?_, hid (keep_setCells _ _ _)⟩
    obtain ⟨cs', e1, e2⟩ := blk_setCells (b := g) (T := 4) (List.replicate N (.bool false)) 0 u _ h1
    refine ⟨cs', e1, ?_⟩
    apply List.ext_getElem?
    intro j
    rw [Array.getElem?_toList]
    by_cases hj : j < N
    · have q := World.cell?_setCells_in g (List.replicate N (.bool false)) 0 u (by simpa using hc) j (by simpa using hj)
      rw [Nat.zero_add, e1.cellF] at q
      rw [q, List.getElem?_eq_getElem (by simpa using hj)]
    · rw [List.getElem?_eq_none (by simp; omega), Array.getElem?_eq_none (by omega)]
theorem below_kg {g : Nat} {w0 W u : World} (h : Below w0.heap.size w0 W) (k : Keep (· ≠ g) W u) (hg : w0.heap.size ≤ g) : Below w0.heap.size w0 u := ⟨k.os.trans h.os, k.tape.trans h.tape, k.output.trans h.output, Nat.le_trans h.size k.size, fun j hj => (k.block j (Nat.lt_of_lt_of_le hj h.size) (by show j ≠ g; omega)).trans (h.block j hj)⟩
theorem mp_ne {w : World} {b n base e size m : Nat} {M : Int → Option Int} {v : Value} {fl : List Value} (hm : MpI w b n M) (ho : w.ownsRow base e size v m fl) : ∀ k, v.ownBlock = some k → k ≠ b := fun k hk he => by
  subst he
  obtain ⟨_, _, cur, q⟩ := own_type ho hk
  obtain ⟨Dm, ⟨es, ck, q1, q2⟩, -⟩ := hm
  rw [q1] at q
  cases q
theorem blk_map (la : Option Addr) (n c : Nat) : (Value.slice la n c).ownBlock = la.map (·.block) := by cases la <;> rfl
end Go.Proofs.Ytliohglpbmpbhaa
