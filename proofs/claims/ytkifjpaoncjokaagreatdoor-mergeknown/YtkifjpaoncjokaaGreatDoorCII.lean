/-
  Ways by their first field, in a map.
  Ways by their first field: what the program makes.
  Is a way done? Is one of many?
-/
import Derived.Test.YtkifjpaoncjokaaGreatDoorCGP
import Derived.Test.YtkifjpaoncjokaaGreatDoorCTP
import Derived.Maps.OwnSet
import Derived.Test.YtkifjpaoncjokaaGreatDoorCCA
import Derived.Test.YtkifjpaoncjokaaGreatDoorCTY
import Derived.Deep.RegionHeld3
namespace Go.Proofs.YtkifjpaoncjokaaGreatDoor
open Go.RowKit
set_option maxRecDepth 1000000
set_option linter.unusedVariables false
set_option linter.unusedSimpArgs false
set_option maxHeartbeats 600000
/-- A way, in memory. -/
structure WV where
  sv : Value
  ws : List Int
def cWV (x : WV) : List Value := [x.sv]
def WyZ (w : World) (Z : Nat → Prop) (x : WV) : Prop := RowS w Z 1 x.sv x.ws.length (x.ws.flatMap cI64)
def hdI (k : Int) (ws : List Int) : Bool := match ws with
  | [] => false
  | a :: _ => decide (a = k)
def grpR : Value → Option (DataW Value × List MemPlace) := fun v => some (.held v, [])
/-- Block b is a map of the ways' rests, by their first fields. -/
def GrpI (w : World) (b base : Nat) (Z : Nat → Prop) (done : List (List Int)) : Prop := ∃ (D : DataW Value) (vf : Int → Value) (gf : Int → List WV), w.ownsMap Tryz.prog 3 grpR b done.length D ∧ Go.Maps.IsMap D ∧ (∀ k, Go.Maps.has D (.int .i64 k) = done.any (hdI k)) ∧ (∀ k, D.atKey (.int .i64 k) (.held (.slice none 0 0)) = .held (vf k)) ∧ (∀ k, (gf k).map WV.ws = (done.filter (hdI k)).map List.tail) ∧ (∀ k, w.ownsRow base 73 1 (vf k) (gf k).length ((gf k).flatMap cWV)) ∧ (∀ k, ∀ x ∈ gf k, WyZ w Z x) ∧ ∀ k k' q, k ≠ k' → (vf k).ownBlock = some q → (vf k').ownBlock ≠ some q
theorem GrpI.new (w : World) (base : Nat) (Z : Nat → Prop) : GrpI (w.alloc (.map #[] 0)) w.heap.size base Z [] :=
  ⟨.map [], fun _ => .slice none 0 0, fun _ => [], World.ownsMap_made _ _ _ _, ⟨[], rfl⟩, fun k => rfl, fun k => rfl, fun k => rfl, fun k => World.ownsRow_nil _ _ _ _, fun k x hx => (by cases hx), fun k k' q _ h => (by cases h)⟩
theorem GrpI.kept {w w' : World} {b base : Nat} {Z : Nat → Prop} {done : List (List Int)} (h : GrpI w b base Z done) (hb : Below w.heap.size w w') : GrpI w' b base Z done := by
  obtain ⟨D, vf, gf, h1, h2, h3, h4, h5, h6, h7, h8⟩ := h
  exact ⟨D, vf, gf, h1.kept (below_grown hb) (by simp), h2, h3, h4, h5, fun k => own_kept (h6 k) hb, fun k x hx => RowS.kept (h7 k x hx) hb, h8⟩
theorem zeroWys (w : World) : (zeroValue 101).run Tryz.prog w = .ok (.slice none 0 0) w := by rfl
theorem key3 {k : Int} (hk : I64 k) : keyOf Tryz.prog 3 (.int .i64 k) = some (.int .i64 k) := Go.Maps.keyOf_int_mk Tryz.underlying3 (by
  unfold I64 at hk
  simp [Lit.wf, IntKind.min, IntKind.max, IntKind.signed, IntKind.bits]
  omega)
theorem GrpI.look {w : World} {b base : Nat} {Z : Nat → Prop} {done : List (List Int)} (h : GrpI w b base Z done) {k : Int} (hk : I64 k) : ∃ (v : Value) (g : List WV), (Instr.lookup 125 (.map (some b)) (.int .i64 k) true).run Tryz.prog w = .ok (.tuple #[v, .bool (done.any (hdI k))]) w ∧ g.map WV.ws = (done.filter (hdI k)).map List.tail ∧ RowS w AnyZ 1 v g.length (g.flatMap cWV) ∧ ∀ x ∈ g, WyZ w Z x := by
  obtain ⟨D, vf, gf, h1, h2, h3, h4, h5, h6, h7, h8⟩ := h
  obtain ⟨v, ps, hrun, hv⟩ := h1.look_ok (Go.Maps.int_keyed Tryz.underlying3) Tryz.underlying125 (zeroWys w) (zd := .held (.slice none 0 0)) (zp := []) rfl (key3 hk)
  rw [h3 k] at hrun
  rw [h4 k] at hv
  have e : v = vf k := by
    unfold grpR at hv
    simp only [Option.some.injEq, Prod.mk.injEq] at hv
    injection hv.1
  subst e
  exact ⟨_, gf k, hrun, h5 k, own_row (h6 k) (fun _ _ => trivial), h7 k⟩
theorem Tryz.infoWy : (Tryz.prog.info? 73).map (fun i => (i.zero, i.size, i.bytes)) = some (some (.slice none 0 0), 1, 24) := by kernel_rfl
/-- One more. -/
theorem appendWs (base : Nat) (v : Value) (l : List WV) (y : WV) (w : World) (hy : y.sv.oneCell' = true) (h : w.ownsRow base 73 1 v l.length (l.flatMap cWV)) (hb : base ≤ w.heap.size) (hn : l.length ≤ 4000000) :
    ∃ a c w', Hid ((Builtin.append_ #[101, 101] 101 #[v, .slice (some ⟨w.heap.size, 0, none⟩) 1 1]).run Tryz.prog (w.alloc (.cells #[y.sv] 73)) = .ok (.slice a (l.length + 1) c) w') ∧ Hid (w'.ownsRow base 73 1 (.slice a (l.length + 1) c) (l ++ [y]).length ((l ++ [y]).flatMap cWV)) ∧ Hid (Grow w w' v (.slice a (l.length + 1) c)) := by
  obtain ⟨v', w', h1, h2, h3⟩ := append_st 73 101 1 24 (.slice none 0 0) Tryz.underlying101 Tryz.infoWy rfl (by decide) (by decide) base v l.length (l.flatMap cWV) w #[y.sv] rfl (fun u hu => by simp at hu; subst hu; exact hy) h hb hn
  obtain ⟨a, c, rfl⟩ := own_shape h2
  exact ⟨a, c, w', hid h1, hid (by rw [List.flatMap_append, List.length_append]; exact h2), hid h3⟩
theorem growKeep {w w' : World} {v v' : Value} {base e size n : Nat} {fl : List Value} (g : Grow w w' v v') (ho : w.ownsRow base e size v n fl) : Keep (· < base) w w' := ⟨g.os, g.tape, g.output, g.size, fun k hk hf => g.block k hk (fun q => by have := (own_type ho q).1; exact absurd hf (Nat.not_lt.2 this))⟩
theorem byKeep {w w' : World} {b base : Nat} (g : w.grownBy w' (some b)) (hb : base ≤ b) : Keep (· < base) w w' := ⟨g.os, g.tape, g.output, g.size, fun k hk hf => g.block k hk (fun q => by cases q; exact absurd hf (Nat.not_lt.2 hb))⟩
/-- A way more: what the look-up answers, what the append does, what the store does. -/
theorem GrpI.step {w : World} {b base : Nat} {Z : Nat → Prop} {done : List (List Int)} (h : GrpI w b base Z done) (hZ : ∀ q, Z q → q < base) (hbb : base ≤ b) (hs : base ≤ w.heap.size) (hd : done.length ≤ 4000000) {k : Int} (hk : I64 k) (y : WV) (hy : y.sv.oneCell' = true) (hyz : WyZ w Z y) : ∃ (v : Value) (a : Option Addr) (n c : Nat) (w1 w2 : World), (∀ W : World, Below w.heap.size w W → (Instr.lookup 125 (.map (some b)) (.int .i64 k) false).run Tryz.prog W = .ok v W) ∧ (Builtin.append_ #[101, 101] 101 #[v, .slice (some ⟨w.heap.size, 0, none⟩) 1 1]).run Tryz.prog (w.alloc (.cells #[y.sv] 73)) = .ok (.slice a n c) w1 ∧ (Instr.mapUpdate 125 (.map (some b)) (.int .i64 k) (.slice a n c)).run Tryz.prog w1 = .ok () w2 ∧ GrpI w2 b base Z (done ++ [k :: y.ws]) ∧ Keep (· < base) w w2 ∧ Keep (· < base) w w1 := by
  obtain ⟨D, vf, gf, h1, h2, h3, h4, h5, h6, h7, h8⟩ := h
  have hgl : (gf k).length ≤ done.length := by
    have := congrArg List.length (h5 k)
    simp only [List.length_map] at this
    rw [this]
    exact List.length_filter_le _ _
  obtain ⟨a, c, w1, HR, HO, HG⟩ := appendWs base (vf k) (gf k) y w hy (h6 k) hs (by omega)
  have hnb : (vf k).ownBlock ≠ some b := fun q => by
    obtain ⟨_, _, cur, e⟩ := own_type (h6 k) q
    obtain ⟨es, clock, hbm, _⟩ := h1
    rw [hbm] at e
    cases e
  have hby : w.grownBy w1 (vf k).ownBlock := ⟨HG.out.os, HG.out.tape, HG.out.output, HG.out.size, fun q hq hne => HG.out.block q hq (fun e => hne e.symm)⟩
  have hm1 := h1.kept hby (fun e => hnb e.symm)
  obtain ⟨w2, hrun, hm2, hg2⟩ := hm1.update (val := .slice a ((gf k).length + 1) c) (d := .held (.slice a ((gf k).length + 1) c)) (ps := []) (Go.Maps.int_keyed Tryz.underlying3) Tryz.underlying125 (by unfold maxLen; omega) (key3 hk) rfl
  have K1 := growKeep HG.out (h6 k)
  have K2 := byKeep hg2 hbb
  have nbk : ∀ {u : Value} {n : Nat} {fl : List Value}, w1.ownsRow base 73 1 u n fl → u.ownBlock ≠ some b := fun {u n fl} hu q => by
    obtain ⟨_, _, cur, e⟩ := own_type hu q
    obtain ⟨es, clock, hbm, _⟩ := hm1
    rw [hbm] at e
    cases e
  have own2 : ∀ {u : Value} {n : Nat} {fl : List Value}, w1.ownsRow base 73 1 u n fl → w2.ownsRow base 73 1 u n fl := fun {u n fl} hu => hu.kept hg2 (.inr (nbk hu))
  have kne : ∀ {q : Int}, q ≠ k → (Lit.int .i64 q) ≠ (Lit.int .i64 k) := fun hq e => hq (by injection e)
  obtain ⟨v', ev'⟩ : ∃ v', v' = Value.slice a ((gf k).length + 1) c := ⟨_, rfl⟩
  refine ⟨vf k, a, (gf k).length + 1, c, w1, w2, fun W hW => ?_, HR.out, hrun, ⟨D.put (.int .i64 k) (.held (.slice a ((gf k).length + 1) c)), fun q => if q = k then .slice a ((gf k).length + 1) c else vf q, fun q => if q = k then gf k ++ [y] else gf q, ?_, ?_, fun q => ?_, fun q => ?_, fun q => ?_, fun q => ?_, fun q x hx => ?_, fun q q' z hne hz => ?_⟩, K1.trans K2, K1⟩
  · obtain ⟨u, ps, hr, hv⟩ := (h1.kept (below_grown hW) (by simp)).lookup (Go.Maps.int_keyed Tryz.underlying3) Tryz.underlying125 (zeroWys W) (zd := .held (.slice none 0 0)) (zp := []) rfl (key3 hk)
    rw [h4 k] at hv
    have e : u = vf k := by
      unfold grpR at hv
      simp only [Option.some.injEq, Prod.mk.injEq] at hv
      injection hv.1
    rw [← e]
    exact hr
  · rw [List.length_append]; exact hm2
  · obtain ⟨es, rfl⟩ := h2; exact ⟨_, rfl⟩
  · rw [List.any_append]
    by_cases e : q = k
    · subst e
      rw [Go.Maps.has_put_same (k := Lit.int .i64 q) h2 (by trivial)]
      simp [hdI]
    · rw [Go.Maps.has_put_other (kne e), h3 q]
      simp [hdI, Ne.symm e]
  · dsimp only
    by_cases e : q = k
    · subst e
      rw [Go.Maps.atKey_put_same (k := Lit.int .i64 q) h2 (by trivial), if_pos rfl]
    · rw [Go.Maps.atKey_put_other (kne e), if_neg e]
      exact h4 q
  · dsimp only
    by_cases e : q = k
    · subst e
      rw [if_pos rfl, List.map_append, h5, List.filter_append, List.map_append]
      simp [hdI]
    · rw [if_neg e, h5, List.filter_append]
      simp [hdI, Ne.symm e]
  · dsimp only
    by_cases e : q = k
    · subst e
      rw [if_pos rfl, if_pos rfl]
      exact own2 HO.out
    · rw [if_neg e, if_neg e]
      exact own2 (own_keep (f := fun z => (vf k).ownBlock ≠ some z) (h6 q) (fun z hz => fun hk => h8 q k z e hz hk) (Keep.ofGrow HG.out (fun _ hk => hk)))
  · dsimp only at hx
    have hx' : WyZ w Z x := by
      by_cases e : q = k
      · rw [if_pos e] at hx
        rcases List.mem_append.1 hx with hx | hx
        · exact h7 k x hx
        · rw [List.mem_singleton] at hx; subst hx; exact hyz
      · rw [if_neg e] at hx
        exact h7 q x hx
    exact RowS.keep hx' (K1.trans K2) hZ
  · dsimp only at hz ⊢
    by_cases e : q = k
    · subst e
      rw [if_pos rfl] at hz
      rw [if_neg (Ne.symm hne)]
      intro hz2
      rcases HG.out.own with e2 | e2
      · rw [e2] at hz
        exact h8 q q' z hne hz hz2
      · have := e2 z hz
        have := (own_type (h6 q') hz2).2.1
        omega
    · rw [if_neg e] at hz
      by_cases e' : q' = k
      · subst e'
        rw [if_pos rfl]
        intro hz2
        rcases HG.out.own with e2 | e2
        · rw [e2] at hz2
          exact h8 q q' z hne hz hz2
        · have := e2 z hz2
          have := (own_type (h6 q) hz).2.1
          omega
      · rw [if_neg e']
        exact h8 q q' z hne hz
set_option maxHeartbeats 1000000
theorem step_lookup_ran {P : Program} {ops : Array Oper} {o : Oper} {a : Act} {w : World} {K : Act → World → Prop} {Q : Exit → Act → World → Prop} {E : Prop}
    (hg : o.guard = none) (m x : Operand) (t : TypeId) (b : Bool) (hop : o.op = Op.lookup t m x b)
    (mv xv v' : Value) (hm : a.eval m = mv) (hx : a.eval x = xv) (hr : (Instr.lookup t mv xv b).run P w = .ok v' w) (hK : K (a.put o.dst v') w) :
    if Region.wanted o (yielded ops a.tmps) = true then Oper.wp P o a w K Q else E := by
  have hw : Region.wanted o (yielded ops a.tmps) = true := by simp [Region.wanted, hg]
  rw [if_pos hw]
  unfold Oper.wp
  simp [execOp, hop, hm, hx, hr, Result.andThen]
  exact hK
theorem step_mapUpdate_ran {P : Program} {ops : Array Oper} {o : Oper} {a : Act} {w : World} {K : Act → World → Prop} {Q : Exit → Act → World → Prop} {E : Prop}
    (hg : o.guard = none) (m x v : Operand) (t : TypeId) (hop : o.op = Op.mapUpdate t m x v)
    (mv xv vv : Value) (w' : World) (hm : a.eval m = mv) (hx : a.eval x = xv) (hv : a.eval v = vv) (hr : (Instr.mapUpdate t mv xv vv).run P w = .ok () w') (hK : K (a.put o.dst undef) w') :
    if Region.wanted o (yielded ops a.tmps) = true then Oper.wp P o a w K Q else E := by
  have hw : Region.wanted o (yielded ops a.tmps) = true := by simp [Region.wanted, hg]
  rw [if_pos hw]
  unfold Oper.wp
  simp [execOp, hop, hm, hx, hv, hr, Result.andThen]
  exact hK
theorem tailRunW (b o n c : Nat) (h1 : 1 ≤ n) (W : World) : (Instr.sliceAt 73 (.slice (some ⟨b, o, none⟩) n c) (some (.int .i64 1)) none none).run Tryz.prog W = .ok (.slice (if c = 1 then some ⟨b, o, none⟩ else some ⟨b, o + 1, none⟩) (n - 1) (c - 1)) W := by
  have e : Tryz.prog.underlying 73 = some (.slice 3) := Tryz.underlying73
  have k1 : (1 : Int) ≤ (n : Int) := by omega
  simp [Instr.sliceAt, Instr.slice, Instr.sliceBounds, Instr.sliceBound, go_sem, e, k1]
theorem rowS_tl {w : World} {Z : Nat → Prop} {b o n c : Nat} {x : Int} {xs : List Int} (h : RowS w Z 1 (.slice (some ⟨b, o, none⟩) n c) (x :: xs).length ((x :: xs).flatMap cI64)) : RowS w Z 1 (.slice (if c = 1 then some ⟨b, o, none⟩ else some ⟨b, o + 1, none⟩) xs.length (c - 1)) xs.length (xs.flatMap cI64) := by
  obtain ⟨a', c', e, h1, h2, h3, h4⟩ := h
  simp only [Value.slice.injEq] at e
  obtain ⟨rfl, rfl, rfl⟩ := e
  simp only [List.length_cons] at h2
  refine ⟨_, _, rfl, flatM_len (k := 1) (fun _ => rfl) _, by omega, by omega, ?_⟩
  by_cases q : c = 1
  · rw [if_pos q]
    exact .inl ⟨by omega, fun e => by cases e⟩
  · rw [if_neg q]
    rcases h4 with ⟨q1, q2⟩ | ⟨b', off, e, hz, hc⟩
    · simp at q1
    · cases e
      refine .inr ⟨b, o + 1, rfl, hz, fun j u hu => ?_⟩
      have := hc (j + 1) u (by simpa [cI64] using hu)
      rw [Nat.add_right_comm]
      exact this
theorem cell_keep {f : Nat → Prop} {w w' : World} {b i : Nat} {v : Value} (h : w.cell? ⟨b, i, none⟩ = some v) (g : Keep f w w') (hf : f b) : w'.cell? ⟨b, i, none⟩ = some v := by
  rw [World.cell?_of_block (g.block b (World.block_lt_of_cell? _ _ h) hf)]
  exact h
theorem keep_bel {w w0 w' : World} (h : Below w.heap.size w w0) (g : Keep (· < w.heap.size) w0 w') : Below w.heap.size w w' := ⟨g.os.trans h.os, g.tape.trans h.tape, g.output.trans h.output, Nat.le_trans h.size g.size, fun k hk => (g.block k (Nat.lt_of_lt_of_le hk h.size) hk).trans (h.block k hk)⟩
theorem groupedT (w : World) (mask : List WV) (ma : Option Addr) (mc : Nat) (hm : RowS w AnyZ 1 (.slice ma mask.length mc) mask.length (mask.flatMap cWV)) (hw : ∀ x ∈ mask, WyZ w AnyZ x ∧ x.ws ≠ [] ∧ ∀ n ∈ x.ws, I64 n) (hn : mask.length ≤ 4000000) : Calls Tryz.prog 65 #[.slice ma mask.length mc] w fun e w' => ∃ b : Nat, e = .returned (.map (some b)) ∧ GrpI w' b w.heap.size (· < w.heap.size) (mask.map WV.ws) ∧ w.heap.size ≤ b ∧ Below w.heap.size w w' := by
  have HM := hid hm
  have HW := hid hw
  have n63 : (mask.length : Int) ≤ 4000000 := by omega
  have HN := hid hn
  clear hm hw hn
  have hmk := fun W => run_makeMap0 (P := Tryz.prog) 125 W Tryz.underlying125
  go_enter Tryz.func65, Tryz.ntmps65
  go_wp2
  go_loopw [9] (fun r wr => ∃ j : Nat, r = .int .i64 j ∧ j ≤ mask.length ∧ Hid (GrpI wr w.heap.size w.heap.size (· < w.heap.size) ((mask.take j).map WV.ws)) ∧ Hid (Below w.heap.size w wr)) (fun r wr => mask.length - numAt wr r)
  case atStart => exact ⟨0, rfl, by omega, hid (GrpI.new _ _ _), hid (by exact blBy)⟩
  case round =>
    obtain ⟨j, rfl, hj, HG, hb⟩ := hrel
    by_cases hlt : j < mask.length
    · have j1 : (j : Int) < (mask.length : Int) := by omega
      obtain ⟨pb, po, epb, hc⟩ := rowAt (g := cWV) (fun _ => rfl) (HM.out.kept hb.out) (i := j) (x := mask[j]) (by simp [hlt])
      have m0 := hc 0 _ rfl
      clear hc
      subst epb
      simp only [Nat.mul_one, Nat.add_zero] at m0
      have hpb : pb < wr.heap.size := World.block_lt_of_cell? _ _ m0
      obtain ⟨y1, y2, y3⟩ := HW.out _ (List.getElem_mem hlt)
      have HTK : Hid ((mask.take (j + 1)).map WV.ws = (mask.take j).map WV.ws ++ [mask[j].ws]) := hid (by rw [List.take_succ_eq_append_getElem hlt, List.map_append]; rfl)
      have HTL : Hid (((mask.take j).map WV.ws).length ≤ 4000000) := hid (by have := HN.out; simp; omega)
      generalize mask[j] = X at *
      obtain ⟨sv, ws⟩ := X
      dsimp only at y2 y3 m0 HTK
      obtain ⟨k, r, rfl⟩ : ∃ k r, ws = k :: r := by
        match ws, y2 with
        | k :: r, _ => exact ⟨k, r, rfl⟩
      have hk := y3 k (by simp)
      have y1o : RowS w (· < w.heap.size) 1 sv (k :: r).length ((k :: r).flatMap cI64) := (row_oldZ (by decide) y1).weak (fun _ h => h.2)
      obtain ⟨sa, sc, rfl, sl⟩ := rowS_sl y1o
      obtain ⟨wb, wo, ewb, hc⟩ := rowAt (g := cI64) (fun _ => rfl) y1o (i := 0) (x := k) (by simp)
      have k0 := hc 0 _ rfl
      clear hc y1 y2 y3
      subst ewb
      simp only [Nat.mul_one, Nat.zero_mul, Nat.add_zero] at k0
      have hwb : wb < w.heap.size := World.block_lt_of_cell? _ _ k0
      have k1 := cell_below k0 hb.out
      obtain ⟨ta, T1, HR1⟩ : ∃ ta, (∀ W, (Instr.sliceAt 73 (.slice (some ⟨wb, wo, none⟩) (k :: r).length sc) (some (.int .i64 1)) none none).run Tryz.prog W = .ok (.slice ta r.length (sc - 1)) W) ∧ Hid (RowS w (· < w.heap.size) 1 (.slice ta r.length (sc - 1)) r.length (r.flatMap cI64)) := ⟨_, fun W => by have := tailRunW wb wo (k :: r).length sc (by simp) W; simpa using this, hid (rowS_tl y1o)⟩
      have HGD := hid (GrpI.kept HG.out (below_drew1 wr))
      obtain ⟨v, a, n, c, w1, w2, h1, h2, h3, h4, h5, h6⟩ := GrpI.step HGD.out (fun q hq => hq) (Nat.le_refl _) (by have := hb.out.size; simpa using this) HTL.out hk ⟨.slice ta r.length (sc - 1), r⟩ rfl (RowS.kept HR1.out (bl_drew hb.out))
      have HLK := hid h1
      have HAP := hid h2
      have HMU := hid h3
      have HG2 : Hid (GrpI w2 w.heap.size w.heap.size (· < w.heap.size) ((mask.take (j + 1)).map WV.ws)) := hid (by rw [HTK.out]; exact h4)
      have HB2 : Hid (Below w.heap.size w w2) := hid (keep_bel (bl_drew hb.out) h5)
      have kd : wr.drew.cell? ⟨wb, wo, none⟩ = some (.int .i64 k) := k1
      have ka := cell_below kd (below_alloc (w := wr.drew) (.cells #[.slice ta r.length (sc - 1)] 73))
      have kb : ((wr.alloc (.cells #[.slice ta r.length (sc - 1)] 73)).drew).cell? ⟨wb, wo, none⟩ = some (.int .i64 k) := cell_below k1 (bl_drew (bl_alloc (Below.refl _ _) _))
      have kw1 := cell_keep kd h6 hwb
      have kw2 := cell_keep kd h5 hwb
      clear h1 h2 h3 h4 h5 h6 y1o HGD HG HTK HTL HR1 k0
      have hwr : wb < wr.heap.size := World.block_lt_of_cell? _ _ k1
      have HLEN : Hid ((k :: r).length = r.length + 1) := hid rfl
      dsimp only at HAP
      have e1 : (k :: r).length = r.length + 1 := rfl
      rw [e1] at T1
      have s1 : (1 : Int) ≤ (r.length : Int) + 1 := by omega
      have s2 : (0 : Int) < (r.length : Int) + 1 := by omega
      clear e1
      have lk1 := HLK.out wr.drew (Below.refl _ _)
      have lk2 := HLK.out (wr.drew.alloc (.cells #[.slice ta r.length (sc - 1)] 73)) (below_alloc _)
      have lk3 := HLK.out ((wr.alloc (.cells #[.slice ta r.length (sc - 1)] 73)).drew) (below_alloc (w := wr.drew) _)
      have mu := HMU.out
      go_wp2_with fail
      go_region_held3 (fun W => W.cell? ⟨wb, wo, none⟩ = some (.int .i64 k)) (first | (with_reducible exact kd) | (with_reducible exact ka) | (with_reducible exact kw1) | (with_reducible exact kw2) | (with_reducible exact k1) | (with_reducible exact kb)) (first | (refine step_lookup_ran rfl (.tmp 17) (.tmp 20) 125 false rfl (.map (some w.heap.size)) (.int .i64 k) v rfl rfl (HLK.out _ (by (with_reducible (repeat (first | exact Below.refl _ _ | exact below_drew1 _ | refine bl_alloc ?_ _))); done)) ?_) | (refine step_append_ran rfl (.tmp 21) (.tmp 24) 101 101 rfl rfl v (.slice (some ⟨wr.heap.size, 0, none⟩) 1 1) (.slice a n c) w1 rfl rfl HAP.out ?_) | (refine step_mapUpdate_ran rfl (.tmp 13) (.tmp 16) (.tmp 25) 125 rfl (.map (some w.heap.size)) (.int .i64 k) (.slice a n c) w2 rfl rfl rfl HMU.out ?_))
      all_goals
        clear lk1 lk2 lk3 mu HLK HAP HMU kd ka kb kw1
        go_wp2
        exact ⟨⟨j + 1, by simp, by omega, HG2, HB2⟩, by simp [numAt]; omega⟩
    · have j1 : ¬ (j : Int) < (mask.length : Int) := by omega
      have HGF : Hid (GrpI wr w.heap.size w.heap.size (· < w.heap.size) (mask.map WV.ws)) := hid (by have := HG.out; rw [List.take_of_length_le (by omega)] at this; exact this)
      clear HG
      go_wp2
      go_ret
      exact ⟨_, rfl, HGF.out, Nat.le_refl _, hb.out⟩
def BoW (w : World) (r : Bool) (e : Ending) (w' : World) : Prop := e = .returned (.bool r) ∧ Below w.heap.size w w'
theorem isDoneT (w : World) (a : Option Addr) (n c : Nat) : Calls Tryz.prog 67 #[.slice a n c] w (BoW w (decide (n = 0))) := by
  have e : decide (n = 0) = ((n : Int) == 0) := by rw [Bool.eq_iff_iff]; simp; try omega
  rw [e]
  clear e
  go_enter Tryz.func67, Tryz.ntmps67
  go_wp2
  go_ret
  exact ⟨ret_bool (by first | rfl | simp), by first | exact Below.refl _ _ | exact blBy⟩
def IxW (w : World) (l : List WV) (p : WV → Bool) (e : Ending) (w' : World) : Prop := Below w.heap.size w w' ∧ ((e = .returned (.int .i64 (-1)) ∧ l.any p = false) ∨ ∃ j : Nat, e = .returned (.int .i64 (j : Int)) ∧ l.any p = true)
theorem idxWy (w : World) (l : List WV) (la : Option Addr) (lc : Nat) (hl : RowS w AnyZ 1 (.slice la l.length lc) l.length (l.flatMap cWV)) (fn : FuncId) (caps : Array Value) (p : WV → Bool) (hcf : ∀ (args : Array Value) (W : World), (callFunc fn args).run Tryz.prog W = .ok (.enter fn args) W) (hc : ∀ x ∈ l, ∀ W, Below w.heap.size w W → Calls Tryz.prog fn (#[x.sv] ++ caps) W (BoW W (p x))) : Calls Tryz.prog 94 #[.slice la l.length lc, .func (.func fn) #[] caps] w (IxW w l p) := by
  obtain ⟨_, _, e, hn⟩ := rowS_sl hl
  clear e
  have n63 : (l.length : Int) ≤ 9223372036854775807 := by omega
  have HR := hid hl
  have HC := hid hc
  clear hl hc
  go_enter Tryz.func94, Tryz.ntmps94
  go_wp2
  go_loopw [8] (fun r wr => ∃ j : Nat, r = .int .i64 j ∧ j ≤ l.length ∧ Hid (∀ i (h : i < l.length), i < j → p l[i] = false) ∧ Hid (Below w.heap.size w wr)) (fun r wr => l.length - numAt wr r)
  case atStart => exact ⟨0, rfl, by omega, hid (fun i h hi => by omega), hid (Below.refl _ _)⟩
  case round =>
    obtain ⟨j, rfl, hj, HS, hb⟩ := hrel
    by_cases hlt : j < l.length
    · have h2 : (j : Int) < (l.length : Int) := by omega
      obtain ⟨pb, po, epb, hcc⟩ := rowAt (g := cWV) (fun _ => rfl) (HR.out.kept hb.out) (i := j) (x := l[j]) (by simp [hlt])
      subst epb
      have c0 := hcc 0 _ rfl
      clear hcc
      simp only [Nat.mul_one, Nat.add_zero] at c0
      have hpb : pb < wr.heap.size := World.block_lt_of_cell? _ _ c0
      have HCJ := hid (HC.out _ (List.getElem_mem hlt) wr hb.out)
      have HNX : Hid (p l[j] = false → ∀ i (h : i < l.length), i < j + 1 → p l[i] = false) := hid (fun ht i h hi => by
        by_cases e : i = j
        · subst e; exact ht
        · exact HS.out i h (by omega))
      have HNO : Hid (p l[j] = true → l.any p = true) := hid (fun ht => List.any_eq_true.2 ⟨_, List.getElem_mem hlt, ht⟩)
      clear HS
      generalize l[j] = x at *
      cases hpx : p x
      · rw [hpx] at HCJ
        have HS2 := hid (HNX.out hpx)
        clear HNX HNO hpx
        go_wp2_with fail
        refine HCJ.out.mono ?_
        rintro e w1 ⟨rfl, hb1⟩
        have HB1 := hid (bl_then hb.out hb1)
        go_wp2
        exact ⟨⟨j + 1, by simp, by omega, HS2, HB1⟩, by simp [numAt]; omega⟩
      · rw [hpx] at HCJ
        have HF := hid (HNO.out hpx)
        clear HNX HNO hpx
        go_wp2_with fail
        refine HCJ.out.mono ?_
        rintro e w1 ⟨rfl, hb1⟩
        have HB1 := hid (bl_then hb.out hb1)
        go_wp2
        go_ret
        exact ⟨HB1.out, .inr ⟨j, rfl, HF.out⟩⟩
    · have h2 : ¬ (j : Int) < (l.length : Int) := by omega
      have HE : Hid (l.any p = false) := hid (by
        rw [List.any_eq_false]
        intro x hx
        obtain ⟨i, hi, rfl⟩ := List.getElem_of_mem hx
        simp [HS.out i hi (by omega)])
      clear HS
      go_wp2
      go_ret
      exact ⟨hb.out, .inl ⟨rfl, HE.out⟩⟩
theorem conWy (w : World) (l : List WV) (la : Option Addr) (lc : Nat) (hl : RowS w AnyZ 1 (.slice la l.length lc) l.length (l.flatMap cWV)) (fn : FuncId) (caps : Array Value) (p : WV → Bool) (hcf : ∀ (args : Array Value) (W : World), (callFunc fn args).run Tryz.prog W = .ok (.enter fn args) W) (hc : ∀ x ∈ l, ∀ W, Below w.heap.size w W → Calls Tryz.prog fn (#[x.sv] ++ caps) W (BoW W (p x))) : Calls Tryz.prog 66 #[.slice la l.length lc, .func (.func fn) #[] caps] w (BoW w (l.any p)) := by
  have HI := hid (idxWy w l la lc hl fn caps p hcf hc)
  clear hl hc
  go_enter Tryz.func66, Tryz.ntmps66
  go_wp2_with fail
  refine HI.out.mono ?_
  rintro e w1 ⟨hb1, ⟨rfl, hq⟩ | ⟨j, rfl, hq⟩⟩
  · go_wp2
    go_ret
    exact ⟨by rw [hq]; rfl, hb1⟩
  · have k0 : ((0 : Int) ≤ (j : Int)) = True := eq_true (by omega)
    go_wp2
    go_ret
    exact ⟨by rw [hq]; rfl, hb1⟩
end Go.Proofs.YtkifjpaoncjokaaGreatDoor
