/-
  Ways by their first field: what the program makes.
  Is a way done? Is one of many?
  What stays of a message: left.
  Ways of typed messages: what left goes through is there.
-/
import Derived.Test.YtmfaabedfdppcaaGreatDoorCGP
import Derived.Test.YtmfaabedfdppcaaGreatDoorCGB
import Derived.Test.YtmfaabedfdppcaaGreatDoorCTY
import Derived.Deep.RegionHeld3
import Derived.Test.YtmfaabedfdppcaaGreatDoorCGE
namespace Go.Proofs.YtmfaabedfdppcaaGreatDoor
open Go.RowKit
set_option maxRecDepth 1000000
set_option linter.unusedVariables false
set_option linter.unusedSimpArgs false
set_option maxHeartbeats 1000000
theorem step_lookup_ran {P : Program} {ops : Array Oper} {o : Oper} {a : Act} {w : World} {K : Act → World → Prop} {Q : Exit → Act → World → Prop} {E : Prop}
    (hg : o.guard = none) (m x : Operand) (t : TypeId) (b : Bool) (hop : o.op = Op.lookup t m x b)
    (mv xv v' : Value) (hm : a.eval m = mv) (hx : a.eval x = xv) (hr : (Instr.lookup t mv xv b).run P w = .ok v' w) (hK : K (a.put o.dst v') w) :
    if Region.wanted o (yielded ops a.tmps) = true then Oper.wp P o a w K Q else E := by
  have hw : Region.wanted o (yielded ops a.tmps) = true := by simp [Region.wanted, hg]
  rw [if_pos hw]
  unfold Oper.wp
  simp [execOp, hop, hm, hx, hr, Result.andThen]
  exact hK
theorem step_mapUpdate_ran {P : Program} {ops : Array Oper} {o : Oper} {a : Act} {w : World} {K : Act → World → Prop} {Q : Exit → Act → World → Prop} {E : Prop}
    (hg : o.guard = none) (m x v : Operand) (t : TypeId) (hop : o.op = Op.mapUpdate t m x v)
    (mv xv vv : Value) (w' : World) (hm : a.eval m = mv) (hx : a.eval x = xv) (hv : a.eval v = vv) (hr : (Instr.mapUpdate t mv xv vv).run P w = .ok () w') (hK : K (a.put o.dst undef) w') :
    if Region.wanted o (yielded ops a.tmps) = true then Oper.wp P o a w K Q else E := by
  have hw : Region.wanted o (yielded ops a.tmps) = true := by simp [Region.wanted, hg]
  rw [if_pos hw]
  unfold Oper.wp
  simp [execOp, hop, hm, hx, hv, hr, Result.andThen]
  exact hK
theorem tailRunW (b o n c : Nat) (h1 : 1 ≤ n) (W : World) : (Instr.sliceAt 74 (.slice (some ⟨b, o, none⟩) n c) (some (.int .i64 1)) none none).run Tryz.prog W = .ok (.slice (if c = 1 then some ⟨b, o, none⟩ else some ⟨b, o + 1, none⟩) (n - 1) (c - 1)) W := by
  have e : Tryz.prog.underlying 74 = some (.slice 3) := Tryz.underlying74
  have k1 : (1 : Int) ≤ (n : Int) := by omega
  simp [Instr.sliceAt, Instr.slice, Instr.sliceBounds, Instr.sliceBound, go_sem, e, k1]
theorem rowS_tl {w : World} {Z : Nat → Prop} {b o n c : Nat} {x : Int} {xs : List Int} (h : RowS w Z 1 (.slice (some ⟨b, o, none⟩) n c) (x :: xs).length ((x :: xs).flatMap cI64)) : RowS w Z 1 (.slice (if c = 1 then some ⟨b, o, none⟩ else some ⟨b, o + 1, none⟩) xs.length (c - 1)) xs.length (xs.flatMap cI64) := by
  obtain ⟨a', c', e, h1, h2, h3, h4⟩ := h
  simp only [Value.slice.injEq] at e
  obtain ⟨rfl, rfl, rfl⟩ := e
  simp only [List.length_cons] at h2
  refine ⟨_, _, rfl, flatM_len (k := 1) (fun _ => rfl) _, by omega, by omega, ?_⟩
  by_cases q : c = 1
  · rw [if_pos q]
    exact .inl ⟨by omega, fun e => by cases e⟩
  · rw [if_neg q]
    rcases h4 with ⟨q1, q2⟩ | ⟨b', off, e, hz, hc⟩
    · simp at q1
    · cases e
      refine .inr ⟨b, o + 1, rfl, hz, fun j u hu => ?_⟩
      have := hc (j + 1) u (by simpa [cI64] using hu)
      rw [Nat.add_right_comm]
      exact this
theorem cell_keep {f : Nat → Prop} {w w' : World} {b i : Nat} {v : Value} (h : w.cell? ⟨b, i, none⟩ = some v) (g : Keep f w w') (hf : f b) : w'.cell? ⟨b, i, none⟩ = some v := by
  rw [World.cell?_of_block (g.block b (World.block_lt_of_cell? _ _ h) hf)]
  exact h
theorem keep_bel {w w0 w' : World} (h : Below w.heap.size w w0) (g : Keep (· < w.heap.size) w0 w') : Below w.heap.size w w' := ⟨g.os.trans h.os, g.tape.trans h.tape, g.output.trans h.output, Nat.le_trans h.size g.size, fun k hk => (g.block k (Nat.lt_of_lt_of_le hk h.size) hk).trans (h.block k hk)⟩
theorem groupedT (w : World) (mask : List WV) (ma : Option Addr) (mc : Nat) (hm : RowS w AnyZ 1 (.slice ma mask.length mc) mask.length (mask.flatMap cWV)) (hw : ∀ x ∈ mask, WyZ w AnyZ x ∧ x.ws ≠ [] ∧ ∀ n ∈ x.ws, I64 n) (hn : mask.length ≤ 4000000) : Calls Tryz.prog 66 #[.slice ma mask.length mc] w fun e w' => ∃ b : Nat, e = .returned (.map (some b)) ∧ GrpI w' b w.heap.size (· < w.heap.size) (mask.map WV.ws) ∧ w.heap.size ≤ b ∧ Below w.heap.size w w' := by
  have HM := hid hm
  have HW := hid hw
  have n63 : (mask.length : Int) ≤ 4000000 := by omega
  have HN := hid hn
  clear hm hw hn
  have hmk := fun W => run_makeMap0 (P := Tryz.prog) 126 W Tryz.underlying126
  go_enter Tryz.func66, Tryz.ntmps66
  go_wp2
  go_loopw [9] (fun r wr => ∃ j : Nat, r = .int .i64 j ∧ j ≤ mask.length ∧ Hid (GrpI wr w.heap.size w.heap.size (· < w.heap.size) ((mask.take j).map WV.ws)) ∧ Hid (Below w.heap.size w wr)) (fun r wr => mask.length - numAt wr r)
  case atStart => exact ⟨0, rfl, by omega, hid (GrpI.new _ _ _), hid (by exact blBy)⟩
  case round =>
    obtain ⟨j, rfl, hj, HG, hb⟩ := hrel
    by_cases hlt : j < mask.length
    · have j1 : (j : Int) < (mask.length : Int) := by omega
      obtain ⟨pb, po, epb, hc⟩ := rowAt (g := cWV) (fun _ => rfl) (HM.out.kept hb.out) (i := j) (x := mask[j]) (by simp [hlt])
      have m0 := hc 0 _ rfl
      clear hc
      subst epb
      simp only [Nat.mul_one, Nat.add_zero] at m0
      have hpb : pb < wr.heap.size := World.block_lt_of_cell? _ _ m0
      obtain ⟨y1, y2, y3⟩ := HW.out _ (List.getElem_mem hlt)
      have HTK : Hid ((mask.take (j + 1)).map WV.ws = (mask.take j).map WV.ws ++ [mask[j].ws]) := hid (by rw [List.take_succ_eq_append_getElem hlt, List.map_append]; rfl)
      have HTL : Hid (((mask.take j).map WV.ws).length ≤ 4000000) := hid (by have := HN.out; simp; omega)
      generalize mask[j] = X at *
      obtain ⟨sv, ws⟩ := X
      dsimp only at y2 y3 m0 HTK
      obtain ⟨k, r, rfl⟩ : ∃ k r, ws = k :: r := by
        match ws, y2 with
        | k :: r, _ => exact ⟨k, r, rfl⟩
      have hk := y3 k (by simp)
      have y1o : RowS w (· < w.heap.size) 1 sv (k :: r).length ((k :: r).flatMap cI64) := (row_oldZ (by decide) y1).weak (fun _ h => h.2)
      obtain ⟨sa, sc, rfl, sl⟩ := rowS_sl y1o
      obtain ⟨wb, wo, ewb, hc⟩ := rowAt (g := cI64) (fun _ => rfl) y1o (i := 0) (x := k) (by simp)
      have k0 := hc 0 _ rfl
      clear hc y1 y2 y3
      subst ewb
      simp only [Nat.mul_one, Nat.zero_mul, Nat.add_zero] at k0
      have hwb : wb < w.heap.size := World.block_lt_of_cell? _ _ k0
      have k1 := cell_below k0 hb.out
      obtain ⟨ta, T1, HR1⟩ : ∃ ta, (∀ W, (Instr.sliceAt 74 (.slice (some ⟨wb, wo, none⟩) (k :: r).length sc) (some (.int .i64 1)) none none).run Tryz.prog W = .ok (.slice ta r.length (sc - 1)) W) ∧ Hid (RowS w (· < w.heap.size) 1 (.slice ta r.length (sc - 1)) r.length (r.flatMap cI64)) := ⟨_, fun W => by have := tailRunW wb wo (k :: r).length sc (by simp) W; simpa using this, hid (rowS_tl y1o)⟩
      have HGD := hid (GrpI.kept HG.out (below_drew1 wr))
      obtain ⟨v, a, n, c, w1, w2, h1, h2, h3, h4, h5, h6⟩ := GrpI.step HGD.out (fun q hq => hq) (Nat.le_refl _) (by have := hb.out.size; simpa using this) HTL.out hk ⟨.slice ta r.length (sc - 1), r⟩ rfl (RowS.kept HR1.out (bl_drew hb.out))
      have HLK := hid h1
      have HAP := hid h2
      have HMU := hid h3
      have HG2 : Hid (GrpI w2 w.heap.size w.heap.size (· < w.heap.size) ((mask.take (j + 1)).map WV.ws)) := hid (by rw [HTK.out]; exact h4)
      have HB2 : Hid (Below w.heap.size w w2) := hid (keep_bel (bl_drew hb.out) h5)
      have kd : wr.drew.cell? ⟨wb, wo, none⟩ = some (.int .i64 k) := k1
      have ka := cell_below kd (below_alloc (w := wr.drew) (.cells #[.slice ta r.length (sc - 1)] 74))
      have kb : ((wr.alloc (.cells #[.slice ta r.length (sc - 1)] 74)).drew).cell? ⟨wb, wo, none⟩ = some (.int .i64 k) := cell_below k1 (bl_drew (bl_alloc (Below.refl _ _) _))
      have kw1 := cell_keep kd h6 hwb
      have kw2 := cell_keep kd h5 hwb
      clear h1 h2 h3 h4 h5 h6 y1o HGD HG HTK HTL HR1 k0
      have hwr : wb < wr.heap.size := World.block_lt_of_cell? _ _ k1
      have HLEN : Hid ((k :: r).length = r.length + 1) := hid rfl
      dsimp only at HAP
      have e1 : (k :: r).length = r.length + 1 := rfl
      rw [e1] at T1
      have s1 : (1 : Int) ≤ (r.length : Int) + 1 := by omega
      have s2 : (0 : Int) < (r.length : Int) + 1 := by omega
      clear e1
      have lk1 := HLK.out wr.drew (Below.refl _ _)
      have lk2 := HLK.out (wr.drew.alloc (.cells #[.slice ta r.length (sc - 1)] 74)) (below_alloc _)
      have lk3 := HLK.out ((wr.alloc (.cells #[.slice ta r.length (sc - 1)] 74)).drew) (below_alloc (w := wr.drew) _)
      have mu := HMU.out
      go_wp2_with fail
      go_region_held3 (fun W => W.cell? ⟨wb, wo, none⟩ = some (.int .i64 k)) (first | (with_reducible exact kd) | (with_reducible exact ka) | (with_reducible exact kw1) | (with_reducible exact kw2) | (with_reducible exact k1) | (with_reducible exact kb)) (first | (refine step_lookup_ran rfl (.tmp 17) (.tmp 20) 126 false rfl (.map (some w.heap.size)) (.int .i64 k) v rfl rfl (HLK.out _ (by (with_reducible (repeat (first | exact Below.refl _ _ | exact below_drew1 _ | refine bl_alloc ?_ _))); done)) ?_) | (refine step_append_ran rfl (.tmp 21) (.tmp 24) 102 102 rfl rfl v (.slice (some ⟨wr.heap.size, 0, none⟩) 1 1) (.slice a n c) w1 rfl rfl HAP.out ?_) | (refine step_mapUpdate_ran rfl (.tmp 13) (.tmp 16) (.tmp 25) 126 rfl (.map (some w.heap.size)) (.int .i64 k) (.slice a n c) w2 rfl rfl rfl HMU.out ?_))
      all_goals
        clear lk1 lk2 lk3 mu HLK HAP HMU kd ka kb kw1
        go_wp2
        exact ⟨⟨j + 1, by simp, by omega, HG2, HB2⟩, by simp [numAt]; omega⟩
    · have j1 : ¬ (j : Int) < (mask.length : Int) := by omega
      have HGF : Hid (GrpI wr w.heap.size w.heap.size (· < w.heap.size) (mask.map WV.ws)) := hid (by have := HG.out; rw [List.take_of_length_le (by omega)] at this; exact this)
      clear HG
      go_wp2
      go_ret
      exact ⟨_, rfl, HGF.out, Nat.le_refl _, hb.out⟩
def BoW (w : World) (r : Bool) (e : Ending) (w' : World) : Prop := e = .returned (.bool r) ∧ Below w.heap.size w w'
theorem isDoneT (w : World) (a : Option Addr) (n c : Nat) : Calls Tryz.prog 68 #[.slice a n c] w (BoW w (decide (n = 0))) := by
  have e : decide (n = 0) = ((n : Int) == 0) := by rw [Bool.eq_iff_iff]; simp; try omega
  rw [e]
  clear e
  go_enter Tryz.func68, Tryz.ntmps68
  go_wp2
  go_ret
  exact ⟨ret_bool (by first | rfl | simp), by first | exact Below.refl _ _ | exact blBy⟩
def IxW (w : World) (l : List WV) (p : WV → Bool) (e : Ending) (w' : World) : Prop := Below w.heap.size w w' ∧ ((e = .returned (.int .i64 (-1)) ∧ l.any p = false) ∨ ∃ j : Nat, e = .returned (.int .i64 (j : Int)) ∧ l.any p = true)
theorem idxWy (w : World) (l : List WV) (la : Option Addr) (lc : Nat) (hl : RowS w AnyZ 1 (.slice la l.length lc) l.length (l.flatMap cWV)) (fn : FuncId) (caps : Array Value) (p : WV → Bool) (hcf : ∀ (args : Array Value) (W : World), (callFunc fn args).run Tryz.prog W = .ok (.enter fn args) W) (hc : ∀ x ∈ l, ∀ W, Below w.heap.size w W → Calls Tryz.prog fn (#[x.sv] ++ caps) W (BoW W (p x))) : Calls Tryz.prog 95 #[.slice la l.length lc, .func (.func fn) #[] caps] w (IxW w l p) := by
  obtain ⟨_, _, e, hn⟩ := rowS_sl hl
  clear e
  have n63 : (l.length : Int) ≤ 9223372036854775807 := by omega
  have HR := hid hl
  have HC := hid hc
  clear hl hc
  go_enter Tryz.func95, Tryz.ntmps95
  go_wp2
  go_loopw [8] (fun r wr => ∃ j : Nat, r = .int .i64 j ∧ j ≤ l.length ∧ Hid (∀ i (h : i < l.length), i < j → p l[i] = false) ∧ Hid (Below w.heap.size w wr)) (fun r wr => l.length - numAt wr r)
  case atStart => exact ⟨0, rfl, by omega, hid (fun i h hi => by omega), hid (Below.refl _ _)⟩
  case round =>
    obtain ⟨j, rfl, hj, HS, hb⟩ := hrel
    by_cases hlt : j < l.length
    · have h2 : (j : Int) < (l.length : Int) := by omega
      obtain ⟨pb, po, epb, hcc⟩ := rowAt (g := cWV) (fun _ => rfl) (HR.out.kept hb.out) (i := j) (x := l[j]) (by simp [hlt])
      subst epb
      have c0 := hcc 0 _ rfl
      clear hcc
      simp only [Nat.mul_one, Nat.add_zero] at c0
      have hpb : pb < wr.heap.size := World.block_lt_of_cell? _ _ c0
      have HCJ := hid (HC.out _ (List.getElem_mem hlt) wr hb.out)
      have HNX : Hid (p l[j] = false → ∀ i (h : i < l.length), i < j + 1 → p l[i] = false) := hid (fun ht i h hi => by
        by_cases e : i = j
        · subst e; exact ht
        · exact HS.out i h (by omega))
      have HNO : Hid (p l[j] = true → l.any p = true) := hid (fun ht => List.any_eq_true.2 ⟨_, List.getElem_mem hlt, ht⟩)
      clear HS
      generalize l[j] = x at *
      cases hpx : p x
      · rw [hpx] at HCJ
        have HS2 := hid (HNX.out hpx)
        clear HNX HNO hpx
        go_wp2_with fail
        refine HCJ.out.mono ?_
        rintro e w1 ⟨rfl, hb1⟩
        have HB1 := hid (bl_then hb.out hb1)
        go_wp2
        exact ⟨⟨j + 1, by simp, by omega, HS2, HB1⟩, by simp [numAt]; omega⟩
      · rw [hpx] at HCJ
        have HF := hid (HNO.out hpx)
        clear HNX HNO hpx
        go_wp2_with fail
        refine HCJ.out.mono ?_
        rintro e w1 ⟨rfl, hb1⟩
        have HB1 := hid (bl_then hb.out hb1)
        go_wp2
        go_ret
        exact ⟨HB1.out, .inr ⟨j, rfl, HF.out⟩⟩
    · have h2 : ¬ (j : Int) < (l.length : Int) := by omega
      have HE : Hid (l.any p = false) := hid (by
        rw [List.any_eq_false]
        intro x hx
        obtain ⟨i, hi, rfl⟩ := List.getElem_of_mem hx
        simp [HS.out i hi (by omega)])
      clear HS
      go_wp2
      go_ret
      exact ⟨hb.out, .inl ⟨rfl, HE.out⟩⟩
theorem conWy (w : World) (l : List WV) (la : Option Addr) (lc : Nat) (hl : RowS w AnyZ 1 (.slice la l.length lc) l.length (l.flatMap cWV)) (fn : FuncId) (caps : Array Value) (p : WV → Bool) (hcf : ∀ (args : Array Value) (W : World), (callFunc fn args).run Tryz.prog W = .ok (.enter fn args) W) (hc : ∀ x ∈ l, ∀ W, Below w.heap.size w W → Calls Tryz.prog fn (#[x.sv] ++ caps) W (BoW W (p x))) : Calls Tryz.prog 67 #[.slice la l.length lc, .func (.func fn) #[] caps] w (BoW w (l.any p)) := by
  have HI := hid (idxWy w l la lc hl fn caps p hcf hc)
  clear hl hc
  go_enter Tryz.func67, Tryz.ntmps67
  go_wp2_with fail
  refine HI.out.mono ?_
  rintro e w1 ⟨hb1, ⟨rfl, hq⟩ | ⟨j, rfl, hq⟩⟩
  · go_wp2
    go_ret
    exact ⟨by rw [hq]; rfl, hb1⟩
  · have k0 : ((0 : Int) ≤ (j : Int)) = True := eq_true (by omega)
    go_wp2
    go_ret
    exact ⟨by rw [hq]; rfl, hb1⟩
def rstI (ms : List (List Int)) (n : Int) : List (List Int) := (ms.filter (hdI n)).map List.tail
def goB (ms : List (List Int)) (n : Int) : Bool := ms.any (hdI n) && !(rstI ms n).any (fun r => decide (r.length = 0))
def arM (n : Int) (m : CM) : CF CM := ⟨n, [], [⟨0, [], [m]⟩]⟩
def lf1 (sN sU : Bool) (L : List (List Int) → CM → CM) (ms : List (List Int)) (x : CF CM) : List (CF CM) :=
  if goB ms x.num then [arM x.num (L (rstI ms x.num) (wthM x))] else if (if ms.any (hdI x.num) then sN else sU) then [x] else []
def leftM (sN sU : Bool) : Nat → List (List Int) → CM → CM
  | 0, _, m => m
  | d + 1, ms, m => CM.mk (m.fs.flatMap (lf1 sN sU (leftM sN sU d) ms)) (if sU then m.us else [])
/-- Fields that ways go through have messages within. -/
def LftOk : Nat → List (List Int) → CM → Prop
  | 0, _, _ => True
  | d + 1, ms, m => ∀ x ∈ m.fs, goB ms x.num = true → (∃ v vs z zs, x.vs = v :: vs ∧ v.ms = z :: zs) ∧ LftOk d (rstI ms x.num) (wthM x)
theorem lf1_le {sN sU : Bool} {L : List (List Int) → CM → CM} {ms : List (List Int)} (xs : List (CF CM)) : (xs.flatMap (lf1 sN sU L ms)).length ≤ xs.length := by
  induction xs with
  | nil => simp
  | cons x xs ih =>
    have : (lf1 sN sU L ms x).length ≤ 1 := by unfold lf1; by_cases h1 : goB ms x.num = true <;> by_cases h2 : ms.any (hdI x.num) = true <;> cases sN <;> cases sU <;> simp [h1, h2]
    simp only [List.flatMap_cons, List.length_append, List.length_cons]
    omega
theorem OwnA.keepL {α : Type} {f : Nat → Prop} {w w' : World} {base : Nat} {Y : Nat → Prop} {t : TypeId} {k : Nat} {E : World → (Nat → Prop) → List Value → α → Prop} (F : Fam k E) {v : Value} {xs : List α} (h : OwnA w base Y t k E v xs) (g : Keep f w w') (hv : ∀ b, v.ownBlock = some b → f b) (hY : ∀ b, Y b → f b) : OwnA w' base Y t k E v xs := by
  obtain ⟨ts, h1, h2, h3⟩ := h
  exact ⟨ts, own_keep h1 hv g, h2, fun i t x ht hx => F.go (h3 i t x ht hx) g (fun b hz => hY b hz.1) (fun b hz => ⟨hz.1, Nat.lt_of_lt_of_le hz.2.1 g.size, hz.2.2⟩)⟩
/-- What is left so far: out's block and its row. -/
def LfS (w1 : World) (Y : Nat → Prop) (d : Nat) (uv : Value) (wr : World) (oa : Option Addr) (n oc : Nat) (l : List (CF CM)) : Prop := l.length = n ∧ OwnA wr (w1.heap.size + 1) (fun b => Y b ∨ w1.heap.size + 1 ≤ b) 33 3 (FmF d) (.slice oa n oc) l ∧ Blk wr w1.heap.size 29 #[.slice oa n oc, uv] ∧ Below w1.heap.size w1 wr
theorem LfS.kept {w1 : World} {Y : Nat → Prop} {d : Nat} {uv : Value} {wr wr' : World} {oa : Option Addr} {n oc : Nat} {l : List (CF CM)} (h : LfS w1 Y d uv wr oa n oc l) (hb : Below wr.heap.size wr wr') : LfS w1 Y d uv wr' oa n oc l := ⟨h.1, h.2.1.kept (famF d) hb, h.2.2.1.kept hb, bl_then h.2.2.2 hb⟩
theorem LfS.push {w1 : World} {Y : Nat → Prop} {d : Nat} {uv : Value} {W W2 : World} {oa : Option Addr} {n oc : Nat} {l : List (CF CM)} (h : LfS w1 Y d uv W oa n oc l) (hY : ∀ b, Y b → b < w1.heap.size) (hb : Below W.heap.size W W2) {cs : List Value} {x : CF CM} (hx : FmF d W2 (fun b => Y b ∨ W.heap.size ≤ b) cs x) (hn : n ≤ 4000000) :
    ∃ la lc x1, Hid ((Builtin.append_ #[26, 26] 26 #[.slice oa n oc, .slice (some ⟨W2.heap.size, 0, none⟩) 1 1]).run Tryz.prog (W2.alloc (.cells cs.toArray 33)) = .ok (.slice la (n + 1) lc) x1) ∧ Hid (LfS w1 Y d uv (x1.setCell ⟨w1.heap.size, 0, none⟩ (.slice la (n + 1) lc)) la (n + 1) lc (l ++ [x])) ∧ Hid (Blk x1 w1.heap.size 29 #[.slice oa n oc, uv]) ∧ Hid (∀ p t cs', W.heap.size ≤ p → Blk W2 p t cs' → Blk x1 p t cs') := by
  have h2 := h.kept hb
  obtain ⟨e0, ho, hB, hbl⟩ := id h2
  have hs : w1.heap.size + 1 ≤ W2.heap.size := hB.lt
  have hs0 : w1.heap.size + 1 ≤ W.heap.size := h.2.2.1.lt
  have HZ : FmF d W2 (ZofA W2 (fun b => Y b ∨ w1.heap.size + 1 ≤ b) (.slice oa n oc)) cs x := zofA_new (famF d) h.2.1 hs0 (Fam.go (famF d) hx (Keep.refl (fun _ => True) W2) (fun _ _ => trivial) (fun b hz => hz.elim (fun q => Or.inl ⟨q, Nat.lt_succ_of_lt (hY b q)⟩) Or.inr))
  obtain ⟨la, lc, x1, HRUN, HO2, HG⟩ := OwnA.push (famF d) 33 26 56 (.agg #[.int .i64 0, .slice none 0 0, .slice none 0 0]) Tryz.underlying26 Tryz.infoF rfl (by decide) (by decide) ho HZ hs (by omega)
  rw [e0] at HRUN HO2 HG
  obtain ⟨ts, t1, -, -⟩ := ho
  have hB1 : Blk x1 w1.heap.size 29 #[.slice oa n oc, uv] := grow_blkW HG.out t1 hB (by decide)
  have ho := h2.2.1
  refine ⟨la, lc, x1, HRUN, hid ⟨by simp [e0], HO2.out.keepL (famF d) (Keep.setCell (f := (· ≠ w1.heap.size)) _ _ _ (fun hq => hq rfl)) (fun b hb2 => ?_) (fun b hb2 => ?_), hB1.set 0 _, (bl_set (hbl.trans (ho.bel HG.out (Nat.le_succ _) (by omega))) (Nat.le_refl _) _)⟩, hid hB1, hid (fun p t cs' hp hq => (HG.out.block p hq.lt (fun e => by have := (h.2.1.own e).2; omega)).trans hq)⟩
  · have := (HO2.out.own hb2).1
    show b ≠ _
    omega
  · show b ≠ _
    rcases hb2 with q | q
    · have := hY b q
      omega
    · omega
def LftA (w : World) (Z : Nat → Prop) (d : Nat) (o : CM) (e : Ending) (w' : World) : Prop := ∃ ds : List Value, e = .returned (.agg ds.toArray) ∧ MsgE w' (fun b => Z b ∨ w.heap.size ≤ b) d ds o ∧ Below w.heap.size w w'
def LftC (fn : FuncId) (sN sU : Bool) (d : Nat) : Prop := ∀ (w : World) (mask : List WV) (ma : Option Addr) (mc : Nat) (hm : RowS w AnyZ 1 (.slice ma mask.length mc) mask.length (mask.flatMap cWV)) (hw : ∀ x ∈ mask, WyZ w AnyZ x ∧ x.ws ≠ [] ∧ ∀ n ∈ x.ws, I64 n) (hn : mask.length ≤ 4000000) (Z : Nat → Prop) (cs : List Value) (m : CM) (h : MsgE w Z d cs m) (hl : LftOk d (mask.map WV.ws) m), Calls Tryz.prog 46 #[.agg cs.toArray, .slice ma mask.length mc, .func (.func fn) #[] #[]] w (LftA w Z d (leftM sN sU d (mask.map WV.ws) m))
theorem cfDone (args : Array Value) (W : World) : (callFunc 68 args).run Tryz.prog W = .ok (.enter 68 args) W := cf_enter Tryz.func68 (by kernel_rfl) (by kernel_rfl) args W
theorem anyDone (w : World) (l : List WV) (la : Option Addr) (lc : Nat) (Z : Nat → Prop) (hl : RowS w AnyZ 1 (.slice la l.length lc) l.length (l.flatMap cWV)) (hz : ∀ y ∈ l, WyZ w Z y) : Calls Tryz.prog 67 #[.slice la l.length lc, .func (.func 68) #[] #[]] w (BoW w (l.any (fun y => decide (y.ws.length = 0)))) :=
  conWy w l la lc hl _ #[] _ cfDone (fun y hy W hW => by
    obtain ⟨a, c, e, -⟩ := rowS_sl (hz y hy)
    rw [e]
    exact isDoneT W a y.ws.length c)
theorem leftStep (fn : FuncId) (sN sU : Bool) (hcf : ∀ (args : Array Value) (W : World), (callFunc fn args).run Tryz.prog W = .ok (.enter fn args) W) (hst : ∀ (b : Bool) (W : World), Calls Tryz.prog fn #[.bool b] W (BoW W (if b then sN else sU))) (d : Nat) (ih : LftC fn sN sU d) : LftC fn sN sU (d + 1) := by
  intro w mask ma mc hm hw hn Z cs m h hl
  replace h := (famM (d + 1)).old h
  obtain ⟨Y, eY⟩ : ∃ Y : Nat → Prop, Y = fun b => Z b ∧ b < w.heap.size := ⟨_, rfl⟩
  rw [← eY] at h
  have HY : Hid (∀ b, Y b → Z b ∧ b < w.heap.size) := hid (fun b hb => by rw [eY] at hb; exact hb)
  clear eY
  obtain ⟨fa, fc, ua, uc, rfl, g1, g2, l1, l2⟩ := msg_open h
  have HFS := hid fun W (hW : Below w.heap.size w W) => g1.kept hW
  have HUS := hid fun W (hW : Below w.heap.size w W) => EnsR.kept g2 hW
  have HGR := hid fun W (hW : Below w.heap.size w W) => groupedT W mask ma mc (hm.kept hW) (fun x hx => ⟨(hw x hx).1.kept hW, (hw x hx).2⟩) hn
  have HNE : Hid (∀ x ∈ mask, x.ws ≠ [] ∧ ∀ n ∈ x.ws, I64 n) := hid fun x hx => (hw x hx).2
  have HLO : Hid (LftOk (d + 1) (mask.map WV.ws) m) := hid hl
  have HN := hid hn
  have HST := hid hst
  have HIH := hid ih
  have n63 : (m.fs.length : Int) ≤ 4000000 := by omega
  have HL1 := hid l1
  clear h g1 g2 hm hw hn hl hst ih l1 l2
  have HO : Hid (leftM sN sU (d + 1) (mask.map WV.ws) m = CM.mk (m.fs.flatMap (lf1 sN sU (leftM sN sU d) (mask.map WV.ws))) (if sU then m.us else [])) := hid rfl
  generalize leftM sN sU (d + 1) (mask.map WV.ws) m = O at *
  go_enter Tryz.func46, Tryz.ntmps46
  go_wp2_with fail
  refine (HGR.out _ (by exact blBy)).mono ?_
  rintro e w1 ⟨b, rfl, hg, hbb, hb1⟩
  have BM : Hid (Blk w1 w.heap.size 29 #[.slice fa m.fs.length fc, .slice ua m.us.length uc]) := hid (((Blk.new _ _ _).kept (below_alloc _)).kept hb1)
  have BR : Hid (Blk w1 (w.heap.size + 1) 29 #[.slice none 0 0, .slice none 0 0]) := hid ((Blk.newAt (by simp)).kept hb1)
  have HB1 : Hid (Below w.heap.size w w1) := hid (bl_then (by exact blBy) hb1)
  have HS1 : Hid (w.heap.size + 2 ≤ w1.heap.size) := hid (by have := hb1.size; simpa using this)
  have HG := hid hg
  clear hg hbb hb1 HGR
  go_wp2_with fail
  refine (HST.out false _).mono ?_
  rintro e w2 ⟨rfl, hb2⟩
  have BO2 : Hid (Blk w2 w1.heap.size 29 #[.slice none 0 0, .slice none 0 0]) := hid ((Blk.new _ _ _).kept hb2)
  replace hb2 : Hid (Below w1.heap.size w1 w2) := hid (below_trans (below_alloc _) hb2)
  simp only [Bool.false_eq_true, if_false]
  obtain ⟨u, eu⟩ : ∃ u, u = (if sU then m.us else []) := ⟨_, rfl⟩
  have BM2 := hid (BM.out.kept hb2.out)
  have xm := BM2.out.cellF
  have zm := BM2.out.lt
  have xo := BO2.out.cellF
  have yo := BO2.out.frz
  have zo := BO2.out.lt
  have ne1 : w.heap.size ≠ w1.heap.size := by have := HS1.out; omega
  have ne2 : w1.heap.size ≠ w.heap.size := by omega
  have HUR : Hid (∃ (va : Option Addr) (vc : Nat), (if sU then Value.slice ua m.us.length uc else .slice none 0 0) = .slice va u.length vc ∧ ∀ W, Below w.heap.size w W → EnsR W Y (.slice va u.length vc) u) := hid (by
    cases sU with
    | true => exact ⟨ua, uc, by rw [eu]; rfl, fun W hW => by rw [eu]; exact HUS.out W hW⟩
    | false => exact ⟨none, 0, by rw [eu]; rfl, fun W hW => by rw [eu]; exact RowM.nil _ _ _ _⟩)
  obtain ⟨va, vc, ev, hur⟩ := HUR.out
  have HU := hid hur
  have HO2 : Hid (O = CM.mk (m.fs.flatMap (lf1 sN sU (leftM sN sU d) (mask.map WV.ws))) u) := hid (by rw [HO.out, eu])
  clear hur HUR HUS eu HO
  go_upto_if 17 with fail
  go_cut [] from 17 (fun wc => Hid (Blk wc w1.heap.size 29 #[.slice none 0 0, .slice va u.length vc]) ∧ Hid (Below w1.heap.size w1 wc))
  case first =>
    cases sU with
    | true =>
      go_wp2_with fail
      go_meet
      exact ⟨hid (by simp only [if_true] at ev; rw [← ev]; exact BO2.out.set 1 _), hid (by have := hb2.out; exact blBy)⟩
    | false =>
      go_wp2_with fail
      go_meet
      exact ⟨hid (by simp only [Bool.false_eq_true, if_false] at ev; rw [← ev]; exact BO2.out), hb2⟩
  case rest =>
  obtain ⟨BO, HBW⟩ := hcut
  generalize wc = wr0 at *
  clear hb2 BO2 BM2 xm zm xo yo zo ev
  obtain ⟨F, HF⟩ : ∃ F, Hid (F = lf1 sN sU (leftM sN sU d) (mask.map WV.ws)) := ⟨_, hid rfl⟩
  have HO3 : Hid (O = CM.mk (m.fs.flatMap F) u) := hid (by rw [HO2.out, HF.out])
  have HFL : Hid (∀ j, ((m.fs.take j).flatMap F).length ≤ 4000000) := hid (fun j => by rw [HF.out]; have := lf1_le (sN := sN) (sU := sU) (L := leftM sN sU d) (ms := mask.map WV.ws) (m.fs.take j); have := HL1.out; rw [List.length_take] at *; omega)
  clear HO2
  have xm := (BM.out.kept HBW.out).cellF
  have zm := (BM.out.kept HBW.out).lt
  go_wp2_with fail
  go_loopw [24] (fun r wr => ∃ (j n : Nat) (oa : Option Addr) (oc : Nat), r = .int .i64 j ∧ j ≤ m.fs.length ∧ Hid (LfS w1 Y d (.slice va u.length vc) wr oa n oc ((m.fs.take j).flatMap F))) (fun r wr => m.fs.length - numAt wr r)
  case atStart => exact ⟨0, 0, none, 0, rfl, by omega, hid ⟨rfl, OwnA.nil _ _ _ _ _ _, BO.out, HBW.out⟩⟩
  case round =>
    clear xm zm BO HBW
    obtain ⟨j, n, oa, oc, rfl, hj, HS⟩ := hrel
    by_cases hlt : j < m.fs.length
    · have j1 : (j : Int) < (m.fs.length : Int) := by omega
      have HBX : Hid (Below w.heap.size w wr) := hid (bl_then HB1.out HS.out.2.2.2)
      obtain ⟨b1, o1, ka1, kc1, va1, vc1, efa, -, hb1, c0, c1, c2, he⟩ := fls_at (HFS.out _ HBX.out) hlt
      subst efa
      have HE := hid he
      have hI : I64 m.fs[j].num := by
        obtain ⟨_, _, _, _, _, _, _, _, _, h9⟩ := fld_open he
        exact h9
      have HTK : Hid ((m.fs.take (j + 1)).flatMap F = (m.fs.take j).flatMap F ++ F m.fs[j]) := hid (by rw [List.take_succ_eq_append_getElem hlt, List.flatMap_append]; simp)
      have HLJ := hid (HLO.out m.fs[j] (List.getElem_mem hlt))
      have HLB : Hid (n ≤ 4000000) := hid (by rw [← HS.out.1]; exact HFL.out j)
      have HFX : Hid (F m.fs[j] = if goB (mask.map WV.ws) m.fs[j].num then [arM m.fs[j].num (leftM sN sU d (rstI (mask.map WV.ws) m.fs[j].num) (wthM m.fs[j]))] else if (if (mask.map WV.ws).any (hdI m.fs[j].num) then sN else sU) then [m.fs[j]] else []) := hid (by rw [HF.out]; rfl)
      clear he
      generalize m.fs[j] = x at *
      obtain ⟨rv, rg, hlk, hrg, hrr, hry⟩ := (HG.out.kept (below_trans HS.out.2.2.2 (below_alloc (w := wr) (.cells #[.int .i64 x.num, .slice ka1 x.ks.length kc1, .slice va1 x.vs.length vc1] 33)))).look hI
      have HRG : Hid (rstI (mask.map WV.ws) x.num = rg.map WV.ws) := hid hrg.symm
      obtain ⟨ra, rc, rfl, -⟩ := rowS_sl hrr
      have HRR := hid hrr
      have HRY := hid hry
      have HI := hid hI
      clear hrg hrr hry hI
      have HGB : Hid (goB (mask.map WV.ws) x.num = ((mask.map WV.ws).any (hdI x.num) && !rg.any (fun y => decide (y.ws.length = 0)))) := hid (by
        have e2 : (rg.map WV.ws).any (fun r => decide (r.length = 0)) = rg.any (fun y => decide (y.ws.length = 0)) := List.any_map
        unfold goB
        rw [HRG.out, e2])
      have HWF : Hid (goB (mask.map WV.ws) x.num = true → ∀ y ∈ rg, y.ws ≠ [] ∧ ∀ n ∈ y.ws, I64 n) := hid (fun hq y hy => by
        have hy2 : y.ws ∈ rstI (mask.map WV.ws) x.num := by rw [HRG.out]; exact List.mem_map_of_mem hy
        unfold rstI at hy2
        obtain ⟨v, hv, ev⟩ := List.mem_map.1 hy2
        obtain ⟨z, hz, rfl⟩ := List.mem_map.1 (List.mem_filter.1 hv).1
        rw [HGB.out, Bool.and_eq_true, Bool.not_eq_true', List.any_eq_false] at hq
        refine ⟨fun e => hq.2 y hy (by rw [e]; rfl), fun k hk => (HNE.out z hz).2 k ?_⟩
        rw [← ev] at hk
        exact List.mem_of_mem_tail hk)
      have HRL : Hid (rg.length ≤ 4000000) := hid (by
        have e3 := congrArg List.length HRG.out
        unfold rstI at e3
        simp only [List.length_map] at e3
        have := List.length_filter_le (hdI x.num) (mask.map WV.ws)
        have := HN.out
        rw [List.length_map] at *
        omega)
      generalize (mask.map WV.ws).any (hdI x.num) = nb at *
      cases nb with
      | false =>
        rw [Bool.false_and] at HGB
        rw [HGB.out] at HFX
        simp only [Bool.false_eq_true, if_false] at HFX
        have HST0 := hid (HST.out false)
        simp only [Bool.false_eq_true, if_false] at HST0
        go_wp2_with fail
        refine (HST0.out _).mono ?_
        rintro e w3 ⟨rfl, hb3⟩
        have Bx : Hid (Blk w3 wr.heap.size 33 #[.int .i64 x.num, .slice ka1 x.ks.length kc1, .slice va1 x.vs.length vc1]) := hid ((Blk.new _ _ _).kept hb3)
        replace hb3 : Hid (Below wr.heap.size wr w3) := hid (below_trans (below_alloc _) hb3)
        have HSF : Hid ((if sU = true then [x] else []) = F x) := hid HFX.out.symm
        generalize sU = ss at *
        clear hlk c0 c1 c2 HLJ HRG HRR HRY HGB HWF HRL HFX
        cases ss with
        | false =>
          simp only [Bool.false_eq_true, if_false] at HSF
          go_wp2
          exact ⟨⟨j + 1, n, oa, oc, by simp, by omega, hid (by rw [HTK.out, ← HSF.out, List.append_nil]; exact HS.out.kept hb3.out)⟩, by simp [numAt]; omega⟩
        | true =>
          simp only [if_true] at HSF
          obtain ⟨la, lc, x1, HRUN, HS2, HBQ, -⟩ := HS.out.push (fun b hb => by have h1 := (HY.out b hb).2; have h2 := HS1.out; omega) hb3.out (cs := [.int .i64 x.num, .slice ka1 x.ks.length kc1, .slice va1 x.vs.length vc1]) (x := x) (Fam.go (famF d) HE.out (keepT hb3.out) (fun _ _ => trivial) (fun b hb => Or.inl hb)) HLB.out
          have xx := Bx.out.cellF
          have zx := Bx.out.lt
          have xo := (HS.out.kept hb3.out).2.2.1.cellF
          have zo := (HS.out.kept hb3.out).2.2.1.lt
          have yq := HBQ.out.frz
          have zq := HBQ.out.lt
          have xq := HBQ.out.cellF
          go_wp2_with (first | (at_builtin; refine wpList_append_ran rfl _ _ 26 26 rfl rfl _ _ (.slice la (n + 1) lc) x1 rfl rfl HRUN.out ?_))
          exact ⟨⟨j + 1, n + 1, la, lc, by simp, by omega, hid (by rw [HTK.out, ← HSF.out]; exact HS2.out)⟩, by simp [numAt]; omega⟩
      | true =>
        rw [Bool.true_and] at HGB
        have HAD := hid (anyDone _ rg ra rc _ HRR.out HRY.out)
        generalize hgo : goB (mask.map WV.ws) x.num = gb at *
        have ean : rg.any (fun y => decide (y.ws.length = 0)) = !gb := by rw [HGB.out, Bool.not_not]
        rw [ean] at HAD
        cases gb with
        | false =>
          have HST0 := hid (HST.out true)
          simp only [Bool.false_eq_true, if_false, if_true, Bool.not_false] at HST0 HAD HFX
          go_wp2_with fail
          refine HAD.out.mono ?_
          rintro e w2 ⟨rfl, hb2⟩
          go_wp2_with fail
          refine (HST0.out _).mono ?_
          rintro e w3 ⟨rfl, hb3⟩
          have Bx : Hid (Blk w3 wr.heap.size 33 #[.int .i64 x.num, .slice ka1 x.ks.length kc1, .slice va1 x.vs.length vc1]) := hid (((Blk.new _ _ _).kept hb2).kept hb3)
          replace hb3 : Hid (Below wr.heap.size wr w3) := hid (below_trans (below_trans (below_alloc _) hb2) hb3)
          have HSF : Hid ((if sN = true then [x] else []) = F x) := hid HFX.out.symm
          generalize sN = ss at *
          clear hlk c0 c1 c2 HLJ HRG HRR HRY HGB HWF HRL HFX HAD
          cases ss with
          | false =>
            simp only [Bool.false_eq_true, if_false] at HSF
            go_wp2
            exact ⟨⟨j + 1, n, oa, oc, by simp, by omega, hid (by rw [HTK.out, ← HSF.out, List.append_nil]; exact HS.out.kept hb3.out)⟩, by simp [numAt]; omega⟩
          | true =>
            simp only [if_true] at HSF
            obtain ⟨la, lc, x1, HRUN, HS2, HBQ, -⟩ := HS.out.push (fun b hb => by have h1 := (HY.out b hb).2; have h2 := HS1.out; omega) hb3.out (cs := [.int .i64 x.num, .slice ka1 x.ks.length kc1, .slice va1 x.vs.length vc1]) (x := x) (Fam.go (famF d) HE.out (keepT hb3.out) (fun _ _ => trivial) (fun b hb => Or.inl hb)) HLB.out
            have xx := Bx.out.cellF
            have zx := Bx.out.lt
            have xo := (HS.out.kept hb3.out).2.2.1.cellF
            have zo := (HS.out.kept hb3.out).2.2.1.lt
            have yq := HBQ.out.frz
            have zq := HBQ.out.lt
            have xq := HBQ.out.cellF
            go_wp2_with (first | (at_builtin; refine wpList_append_ran rfl _ _ 26 26 rfl rfl _ _ (.slice la (n + 1) lc) x1 rfl rfl HRUN.out ?_))
            exact ⟨⟨j + 1, n + 1, la, lc, by simp, by omega, hid (by rw [HTK.out, ← HSF.out]; exact HS2.out)⟩, by simp [numAt]; omega⟩
        | true =>
          simp only [Bool.not_true, if_true] at HAD HFX
          obtain ⟨⟨v, vs, z, zs, ev, ez⟩, hlo⟩ := HLJ.out rfl
          have EZ : Hid (wthM x = z) := hid (by unfold wthM; rw [ev]; dsimp only; rw [ez])
          rw [HRG.out, EZ.out] at hlo HFX
          replace hlo := hid hlo
          replace ev := hid ev
          replace ez := hid ez
          go_wp2_with fail
          refine HAD.out.mono ?_
          rintro e w2 ⟨rfl, hb2⟩
          have HB2 : Hid (Below wr.heap.size wr w2) := hid (below_trans (below_alloc _) hb2)
          have Bx : Hid (Blk w2 wr.heap.size 33 #[.int .i64 x.num, .slice ka1 x.ks.length kc1, .slice va1 x.vs.length vc1]) := hid ((Blk.new _ _ _).kept hb2)
          have BQ : Hid (Blk w2 w1.heap.size 29 #[.slice oa n oc, .slice va u.length vc]) := hid (HS.out.kept HB2.out).2.2.1
          have HWT := hid fun W (hW : Below w2.heap.size w2 W) => withinT d W Y _ x (FldE.kept HE.out (below_trans HB2.out hW)) v vs ev.out z zs ez.out
          have HLF := hid fun W ds (hW : Below w2.heap.size w2 W) (hds : MsgE W Y d ds z) => (HIH.out W rg ra rc (HRR.out.kept (below_trans hb2 hW)) (fun y hy => ⟨((HRY.out y hy).kept (below_trans hb2 hW)).weak (fun _ _ => trivial), HWF.out (by first | rfl | trivial) y hy⟩) HRL.out Y ds z hds hlo.out).mono (R' := fun e w' => ∃ ds2 : List Value, e = .returned (.agg ds2.toArray) ∧ MsgE w' (fun b => Y b ∨ wr.heap.size ≤ b) d ds2 (leftM sN sU d (rg.map WV.ws) z) ∧ Below W.heap.size W w') (fun e w' h => by
            obtain ⟨ds2, h1, h2, h3⟩ := h
            exact ⟨ds2, h1, MsgE.go (Keep.refl (fun _ => True) w') (fun _ _ => trivial) (fun b hb => hb.elim Or.inl (fun q => Or.inr (Nat.le_trans (Nat.le_trans HB2.out.size hW.size) q))) d _ _ h2, h3⟩)
          generalize leftM sN sU d (rg.map WV.ws) z = M at *
          obtain ⟨ax, hax⟩ : ∃ ax, ax = arM x.num M := ⟨_, rfl⟩
          have HAR := hid fun W ds (hW : Below wr.heap.size wr W) (hds : MsgE W (fun b => Y b ∨ wr.heap.size ≤ b) d ds M) => (aroundT d W _ ds M x.num hds HI.out).mono (R' := fun e w' => ∃ es : List Value, e = .returned (.agg es.toArray) ∧ FmF d w' (fun b => Y b ∨ wr.heap.size ≤ b) es ax ∧ Below W.heap.size W w') (fun e w' h => by
            obtain ⟨ds2, h1, h2, h3⟩ := h
            rw [hax]
            exact ⟨ds2, h1, Fam.go (famF d) h2 (Keep.refl (fun _ => True) w') (fun _ _ => trivial) (fun b hb => hb.elim (fun q => q) (fun q => Or.inr (Nat.le_trans hW.size q))), h3⟩)
          have HFA : Hid (F x = [ax]) := hid (by rw [HFX.out, hax])
          have HPQ : wr.heap.size ≠ w1.heap.size := by have := HS.out.2.2.1.lt; omega
          clear hax hlo ev ez EZ HFX HLJ HRG HRR HRY HGB HWF HAD HE c0 c1 c2 hlk ean
          go_upto_region 11 with fail
          have HSK : Hid (∀ W, Below w2.heap.size w2 W → (∀ k, W.cell? ⟨wr.heap.size, k, none⟩ = #[.int .i64 x.num, .slice ka1 x.ks.length kc1, .slice va1 x.vs.length vc1][k]?) ∧ (∀ k, W.cell? ⟨w1.heap.size, k, none⟩ = #[.slice oa n oc, .slice va u.length vc][k]?)) := hid (fun W hW => ⟨(Bx.out.kept hW).cellF, (BQ.out.kept hW).cellF⟩)
          refine wp_regionL (S := SL (fun W => ∀ k, W.cell? ⟨wr.heap.size, k, none⟩ = #[.int .i64 x.num, .slice ka1 x.ks.length kc1, .slice va1 x.vs.length vc1][k]?) (fun W => ∀ k, W.cell? ⟨w1.heap.size, k, none⟩ = #[.slice oa n oc, .slice va u.length vc][k]?) 13) (by kernel_rfl) (SL.of (HSK.out _ (below_drew1 _)).1 (HSK.out _ (below_drew1 _)).2) (fun hHeld => ?_)
          refine takeL0 0 (v := ?_) rfl (by kernel_rfl) (by kernel_rfl) (by kernel_rfl) (fun _ _ _ h => h) (by kernel_rfl) (Or.inl ⟨by rfl, ?_⟩) hHeld (fun hHeld => ?_)
          rotate_left
          · (intro w hSw; (try obtain ⟨hSw, hSx⟩ := hSw); (try dsimp only at hSw); (try dsimp only at hSx); go_simp; (try with_reducible rfl))
          try simp only [Act.put, List.getElem_toArray, List.getElem_cons_succ, List.getElem_cons_zero, List.setIfInBounds_toArray, List.set_cons_zero, List.set_cons_succ]
          refine takeL1 1 (v := ?_) rfl rfl (by kernel_rfl) (by kernel_rfl) (by kernel_rfl) (by kernel_rfl) (by kernel_rfl) (fun _ _ _ h => h) (by kernel_rfl) (Or.inl ⟨by rfl, ?_⟩) hHeld (fun hHeld => ?_)
          rotate_left
          · (intro w hSw; (try obtain ⟨hSw, hSx⟩ := hSw); (try dsimp only at hSw); (try dsimp only at hSx); go_simp; (try with_reducible rfl))
          try simp only [Act.put, List.getElem_toArray, List.getElem_cons_succ, List.getElem_cons_zero, List.setIfInBounds_toArray, List.set_cons_zero, List.set_cons_succ]
          refine takeL0 2 (v := ?_) rfl (by kernel_rfl) (by kernel_rfl) (by kernel_rfl) (fun _ _ _ h => h) (by kernel_rfl) (Or.inl ⟨by rfl, ?_⟩) hHeld (fun hHeld => ?_)
          rotate_left
          · (intro w hSw; (try obtain ⟨hSw, hSx⟩ := hSw); (try dsimp only at hSw); (try dsimp only at hSx); go_simp; (try with_reducible rfl))
          try simp only [Act.put, List.getElem_toArray, List.getElem_cons_succ, List.getElem_cons_zero, List.setIfInBounds_toArray, List.set_cons_zero, List.set_cons_succ]
          refine takeL0 3 (v := ?_) rfl (by kernel_rfl) (by kernel_rfl) (by kernel_rfl) (fun _ _ _ h => h) (by kernel_rfl) (Or.inl ⟨by rfl, ?_⟩) hHeld (fun hHeld => ?_)
          rotate_left
          · (intro w hSw; (try obtain ⟨hSw, hSx⟩ := hSw); (try dsimp only at hSw); (try dsimp only at hSx); go_simp; (try with_reducible rfl))
          try simp only [Act.put, List.getElem_toArray, List.getElem_cons_succ, List.getElem_cons_zero, List.setIfInBounds_toArray, List.set_cons_zero, List.set_cons_succ]
          refine takeL0 4 (v := ?_) rfl (by kernel_rfl) (by kernel_rfl) (by kernel_rfl) (fun _ _ _ h => h) (by kernel_rfl) (Or.inl ⟨by rfl, ?_⟩) hHeld (fun hHeld => ?_)
          rotate_left
          · (intro w hSw; (try obtain ⟨hSw, hSx⟩ := hSw); (try dsimp only at hSw); (try dsimp only at hSx); go_simp; (try with_reducible rfl))
          try simp only [Act.put, List.getElem_toArray, List.getElem_cons_succ, List.getElem_cons_zero, List.setIfInBounds_toArray, List.set_cons_zero, List.set_cons_succ]
          refine takeL0 6 (v := ?_) rfl (by kernel_rfl) (by kernel_rfl) (by kernel_rfl) (fun _ _ _ h => h) (by kernel_rfl) (Or.inl ⟨by rfl, ?_⟩) hHeld (fun hHeld => ?_)
          rotate_left
          · (intro w hSw; (try obtain ⟨hSw, hSx⟩ := hSw); (try dsimp only at hSw); (try dsimp only at hSx); go_simp; (try with_reducible rfl))
          try simp only [Act.put, List.getElem_toArray, List.getElem_cons_succ, List.getElem_cons_zero, List.setIfInBounds_toArray, List.set_cons_zero, List.set_cons_succ]
          refine takeL0 7 (v := ?_) rfl (by kernel_rfl) (by kernel_rfl) (by kernel_rfl) (fun _ _ _ h => h) (by kernel_rfl) (Or.inl ⟨by rfl, ?_⟩) hHeld (fun hHeld => ?_)
          rotate_left
          · (intro w hSw; (try obtain ⟨hSw, hSx⟩ := hSw); (try dsimp only at hSw); (try dsimp only at hSx); go_simp; (try with_reducible rfl))
          try simp only [Act.put, List.getElem_toArray, List.getElem_cons_succ, List.getElem_cons_zero, List.setIfInBounds_toArray, List.set_cons_zero, List.set_cons_succ]
          refine wpAnyL_ready (rs := [5]) (by kernel_rfl) (by simp) ?_
          refine AllReadyL.cons rfl (fun K hK => ?_) AllReadyL.nil
          go_wp2_with (go_at_call 45; refine (HWT.out _ (below_drew1 _)).mono ?_; rintro e w4 ⟨ds, rfl, hds, hb4⟩)
          replace hb4 : Hid (Below w2.heap.size w2 w4) := hid (below_trans (below_drew1 _) hb4)
          have HDS := hid hds
          obtain ⟨fa2, fc2, ua2, uc2, rfl, -⟩ := msg_openD hds
          clear hds
          refine hK.out _ _ (SL.of (HSK.out _ hb4.out).1 (HSK.out _ hb4.out).2) (fun hHeld => ?_)
          clear hK K
          try simp only [Act.put, List.getElem_toArray, List.getElem_cons_succ, List.getElem_cons_zero, List.setIfInBounds_toArray, List.set_cons_zero, List.set_cons_succ]
          refine wpAnyL_ready (rs := [8]) (by kernel_rfl) (by simp) ?_
          refine AllReadyL.cons rfl (fun K hK => ?_) AllReadyL.nil
          have HL4 := hid (HLF.out w4 [.slice fa2 z.fs.length fc2, .slice ua2 z.us.length uc2] hb4.out HDS.out)
          go_simp
          refine HL4.out.mono ?_
          rintro e w5 ⟨ds2, rfl, hds, hb5⟩
          dsimp only
          replace hb5 : Hid (Below w2.heap.size w2 w5) := hid (below_trans hb4.out hb5)
          have HDS2 := hid hds
          obtain ⟨fa3, fc3, ua3, uc3, rfl, -⟩ := msg_openD hds
          clear hds HDS
          refine hK.out _ _ (SL.of (HSK.out _ hb5.out).1 (HSK.out _ hb5.out).2) (fun hHeld => ?_)
          clear hK K
          try simp only [Act.put, List.getElem_toArray, List.getElem_cons_succ, List.getElem_cons_zero, List.setIfInBounds_toArray, List.set_cons_zero, List.set_cons_succ]
          refine wpAnyL_ready (rs := [9]) (by kernel_rfl) (by simp) ?_
          refine AllReadyL.cons rfl (fun K hK => ?_) AllReadyL.nil
          have HA5 := hid (HAR.out w5 [.slice fa3 M.fs.length fc3, .slice ua3 M.us.length uc3] (below_trans HB2.out hb5.out) HDS2.out)
          go_simp
          refine HA5.out.mono ?_
          rintro e w6 ⟨es, rfl, hes, hb6⟩
          dsimp only
          replace hb6 : Hid (Below w2.heap.size w2 w6) := hid (below_trans hb5.out hb6)
          have HES := hid hes
          obtain ⟨ka2, kc2, va2, vc2, rfl, -⟩ := fld_open hes
          clear hes HDS2
          refine hK.out _ _ (SL.of (HSK.out _ hb6.out).1 (HSK.out _ hb6.out).2) (fun hHeld => ?_)
          clear hK K
          try simp only [Act.put, List.getElem_toArray, List.getElem_cons_succ, List.getElem_cons_zero, List.setIfInBounds_toArray, List.set_cons_zero, List.set_cons_succ]
          obtain ⟨la, lc, x1, HRUN, HS2, HBQ, HKP⟩ := HS.out.push (fun b hb => by have h1 := (HY.out b hb).2; have h2 := HS1.out; omega) (below_trans HB2.out hb6.out) HES.out HLB.out
          refine wpAnyL_ready (rs := [10]) (by kernel_rfl) (by simp) ?_
          refine AllReadyL.cons rfl (fun K hK => ?_) AllReadyL.nil
          go_simp
          refine hK.out _ _ (SL.of (HSK.out _ (below_trans hb6.out (below_alloc _))).1 (HSK.out _ (below_trans hb6.out (below_alloc _))).2) (fun hHeld => ?_)
          clear hK K
          try simp only [Act.put, List.getElem_toArray, List.getElem_cons_succ, List.getElem_cons_zero, List.setIfInBounds_toArray, List.set_cons_zero, List.set_cons_succ]
          refine wpAnyL_ready (rs := [11]) (by kernel_rfl) (by simp) ?_
          refine AllReadyL.cons rfl (fun K hK => ?_) AllReadyL.nil
          refine step_append_ran rfl _ _ 26 26 rfl rfl _ _ (.slice la (n + 1) lc) x1 rfl rfl HRUN.out ?_
          have BX1 := hid (HKP.out _ _ _ (Nat.le_refl _) (Bx.out.kept hb6.out))
          refine hK.out _ _ (SL.of BX1.out.cellF HBQ.out.cellF) (fun hHeld => ?_)
          clear hK K
          try simp only [Act.put, List.getElem_toArray, List.getElem_cons_succ, List.getElem_cons_zero, List.setIfInBounds_toArray, List.set_cons_zero, List.set_cons_succ]
          refine takeL0 12 (v := ?_) rfl (by kernel_rfl) (by kernel_rfl) (by kernel_rfl) (fun _ _ _ h => h) (by kernel_rfl) (Or.inl ⟨by rfl, ?_⟩) hHeld (fun hHeld => ?_)
          rotate_left
          · (intro w hSw; (try obtain ⟨hSw, hSx⟩ := hSw); (try dsimp only at hSw); (try dsimp only at hSx); go_simp; (try with_reducible rfl))
          try simp only [Act.put, List.getElem_toArray, List.getElem_cons_succ, List.getElem_cons_zero, List.setIfInBounds_toArray, List.set_cons_zero, List.set_cons_succ]
          have yq := HBQ.out.frz
          have zq := HBQ.out.lt
          have xq := HBQ.out.cellF
          refine wpAnyL_ready (rs := [13]) (by kernel_rfl) (by simp) ?_
          refine AllReadyL.cons rfl (fun K hK => ?_) AllReadyL.nil
          go_simp
          refine hK.out _ _ (SL.late (BX1.out.other HPQ _).cellF (by kernel_rfl)) (fun hHeld => ?_)
          clear hK K
          try simp only [Act.put, List.getElem_toArray, List.getElem_cons_succ, List.getElem_cons_zero, List.setIfInBounds_toArray, List.set_cons_zero, List.set_cons_succ]
          refine wpAnyL_done (by kernel_rfl) ?_ _
          clear xq yq zq hHeld
          go_wp2
          exact ⟨⟨j + 1, n + 1, la, lc, by simp, by omega, hid (by rw [HTK.out, HFA.out]; exact HS2.out)⟩, by simp [numAt]; omega⟩
    · have j1 : ¬ (j : Int) < (m.fs.length : Int) := by omega
      have HSE := HS
      rw [List.take_of_length_le (by omega)] at HSE
      have HRW := hid (HSE.out.2.1.row (famF d) (by have := HFL.out m.fs.length; rwa [List.take_length] at this))
      have xo := HS.out.2.2.1.cellF
      have yo := HS.out.2.2.1.frz
      have zo := HS.out.2.2.1.lt
      have BR2 := hid (BR.out.kept HS.out.2.2.2)
      have xr := BR2.out.cellF
      have yr := BR2.out.frz
      have zr := BR2.out.lt
      have ne3 : w1.heap.size ≠ w.heap.size + 1 := by have := HS1.out; omega
      have HFN : Hid (∀ W', Keep (· ≠ w.heap.size + 1) wr W' → MsgE W' (fun b => Z b ∨ w.heap.size ≤ b) (d + 1) [.slice oa n oc, .slice va u.length vc] O) := hid (fun W' hW => by
        have h1 := HS1.out
        rw [HO3.out]
        refine ⟨_, _, rfl, FlsR.go HRW.out hW (fun b hb => ?_) (fun b hb => ?_), EnsR.go (HU.out wr (bl_then HB1.out HS.out.2.2.2)) hW (fun b hb => ?_) (fun b hb => Or.inl (HY.out b hb).1)⟩
        · show b ≠ _
          rcases hb with (q | q) | q
          · have := (HY.out b q).2
            omega
          · omega
          · omega
        · rcases hb with (q | q) | q
          · exact Or.inl (HY.out b q).1
          · exact Or.inr (by omega)
          · exact Or.inr (by omega)
        · show b ≠ _
          have := (HY.out b hb).2
          omega)
      have HBE : Hid (Below w.heap.size w wr) := hid (bl_then HB1.out HS.out.2.2.2)
      go_wp2
      exact bodyPost_ret (v := .agg #[.slice oa n oc, .slice va u.length vc]) (by simp [results, Tryz.results46, go_sem, xr, zr, yr]) rfl ⟨[.slice oa n oc, .slice va u.length vc], rfl, HFN.out _ ((Keep.setCell (f := (· ≠ w.heap.size + 1)) _ _ _ (fun hq => hq rfl)).trans (Keep.setCell _ _ _ (fun hq => hq rfl))), by have := HBE.out; exact blBy⟩
theorem leftT (fn : FuncId) (sN sU : Bool) (hcf : ∀ (args : Array Value) (W : World), (callFunc fn args).run Tryz.prog W = .ok (.enter fn args) W) (hst : ∀ (b : Bool) (W : World), Calls Tryz.prog fn #[.bool b] W (BoW W (if b then sN else sU))) (d : Nat) : LftC fn sN sU d := by
  induction d with
  | zero => exact fun w mask ma mc hm hw hn Z cs m h hl => (h : False).elim
  | succ d ih => exact leftStep fn sN sU hcf hst d ih
theorem keepSt (b : Bool) (W : World) : Calls Tryz.prog 29 #[.bool b] W (BoW W (if b then true else false)) := by
  cases b
  · go_enter Tryz.func29, Tryz.ntmps29
    go_wp2
    go_ret
    exact ⟨ret_bool rfl, by first | exact Below.refl _ _ | exact blBy⟩
  · go_enter Tryz.func29, Tryz.ntmps29
    go_wp2
    go_ret
    exact ⟨ret_bool rfl, by first | exact Below.refl _ _ | exact blBy⟩
theorem dropSt (b : Bool) (W : World) : Calls Tryz.prog 30 #[.bool b] W (BoW W (if b then false else true)) := by
  cases b
  · go_enter Tryz.func30, Tryz.ntmps30
    go_wp2
    go_ret
    exact ⟨ret_bool rfl, by first | exact Below.refl _ _ | exact blBy⟩
  · go_enter Tryz.func30, Tryz.ntmps30
    go_wp2
    go_ret
    exact ⟨ret_bool rfl, by first | exact Below.refl _ _ | exact blBy⟩
theorem keepL (d : Nat) : LftC 29 true false d := leftT _ _ _ (cf_enter Tryz.func29 (by kernel_rfl) (by kernel_rfl)) keepSt d
theorem dropL (d : Nat) : LftC 30 false true d := leftT _ _ _ (cf_enter Tryz.func30 (by kernel_rfl) (by kernel_rfl)) dropSt d
set_option maxHeartbeats 600000
def WyP (l : List TV) (fs : List FT) (ws : List Int) : Prop := ∃ n p, wayM l n fs p = some ws
theorem wyP_cons {l : List TV} {fs : List FT} {k : Int} {r : List Int} (h : WyP l fs (k :: r)) : ∃ f ∈ fs, f.num = k ∧ (r ≠ [] → isWyB f = true ∧ WyP l ((l[f.ref.toNat]?).elim [] (·.t.fs)) r) := by
  obtain ⟨n, p, h⟩ := h
  cases n with
  | zero => cases h
  | succ n =>
    rw [wayM] at h
    split at h
    · cases h
    · rename_i f hf
      have hfm := List.mem_of_find?_eq_some hf
      split at h
      · split at h
        · rename_i hG hW
          obtain ⟨r', hr, e⟩ := Option.map_eq_some_iff.1 h
          cases e
          exact ⟨f, hfm, rfl, fun _ => ⟨hW, n, _, hr⟩⟩
        · cases h
      · cases h
        exact ⟨f, hfm, rfl, fun q => absurd rfl q⟩
theorem wyP_ne {l : List TV} {fs : List FT} {ws : List Int} (h : WyP l fs ws) : ws ≠ [] := by
  obtain ⟨n, p, h⟩ := h
  exact way_ne _ _ _ _ h
theorem kept_wayM {l : List TV} (hg : goodB l = true) {d : Nat} {x : TV} (hx : x ∈ l) {m : CM} (h : keptB l (d + 1) x m = true) {f : FT} (hf : f ∈ x.t.fs) (hw : isWyB f = true) {y : CF CM} (hm : y ∈ m.fs) (hn : y.num = f.num) : ∃ v z t, y.vs = [v] ∧ v.ms = [z] ∧ l[f.ref.toNat]? = some t ∧ t ∈ l ∧ keptB l d t z = true := by
  unfold isWyB at hw
  simp only [Bool.and_eq_true, decide_eq_true_eq] at hw
  obtain ⟨k1, k2, k3⟩ := kept_ms h hm
  have ho := ownF_hasF k1
  have eo : ownF x.t.fs y.num = f := riseOneW (good_rise hg hx).1 ho.1 hf (by rw [ho.2, hn])
  have hs := kept_shape h hm
  rw [eo, hw.1] at hs
  unfold shapeB at hs
  rw [if_neg (by decide), if_neg (by decide)] at hs
  simp only [Bool.and_eq_true, decide_eq_true_eq] at hs
  obtain ⟨v, ev⟩ : ∃ v, y.vs = [v] := by
    match y.vs, hs.2 with
    | [v], _ => exact ⟨v, rfl⟩
  obtain ⟨z, ez⟩ := (k3 v (by rw [ev]; simp)).2 (by rw [eo]; exact hw.2)
  obtain ⟨r0, r1⟩ := good_refs hg hx hf
  have et : l[f.ref.toNat]? = some l[f.ref.toNat] := List.getElem?_eq_getElem r1
  refine ⟨v, z, l[f.ref.toNat], ev, ez, et, List.getElem_mem r1, ?_⟩
  have := (kept_all h).2 y hm z (by unfold allM; simp [ev, ez])
  unfold blwB at this
  rw [eo, et] at this
  exact this
theorem rstI_mem {ms : List (List Int)} {n : Int} {r : List Int} : r ∈ rstI ms n ↔ (n :: r) ∈ ms := by
  unfold rstI
  rw [List.mem_map]
  constructor
  · rintro ⟨v, hv, rfl⟩
    obtain ⟨h1, h2⟩ := List.mem_filter.1 hv
    match v, h2, h1 with
    | a :: t, h2, h1 =>
      have e : a = n := by simpa [hdI] using h2
      subst e
      exact h1
  · intro h
    exact ⟨n :: r, List.mem_filter.2 ⟨h, by simp [hdI]⟩, rfl⟩
theorem goB_iff {ms : List (List Int)} {n : Int} : goB ms n = true ↔ (∃ r, r ∈ rstI ms n) ∧ ∀ r ∈ rstI ms n, r ≠ [] := by
  unfold goB
  rw [Bool.and_eq_true, Bool.not_eq_true', List.any_eq_false]
  constructor
  · rintro ⟨h1, h2⟩
    obtain ⟨v, hv, hd⟩ := List.any_eq_true.1 h1
    refine ⟨⟨v.tail, List.mem_map.2 ⟨v, List.mem_filter.2 ⟨hv, hd⟩, rfl⟩⟩, fun r hr e => ?_⟩
    exact h2 r hr (by rw [e]; rfl)
  · rintro ⟨⟨r, hr⟩, h2⟩
    refine ⟨List.any_eq_true.2 ⟨_, rstI_mem.1 hr, by simp [hdI]⟩, fun r hr q => h2 r hr ?_⟩
    exact List.eq_nil_of_length_eq_zero (of_decide_eq_true q)
theorem lft_ok {l : List TV} (hg : goodB l = true) : ∀ (d : Nat) (x : TV) (m : CM) (ms : List (List Int)), x ∈ l → keptB l d x m = true → (∀ v ∈ ms, WyP l x.t.fs v) → LftOk d ms m
  | 0, _, _, _, _, _, _ => trivial
  | d + 1, x, m, ms, hx, hk, hw => by
    intro y hy hgo
    obtain ⟨⟨r, hr⟩, hne⟩ := goB_iff.1 hgo
    obtain ⟨f, hf, hfn, hfr⟩ := wyP_cons (hw _ (rstI_mem.1 hr))
    obtain ⟨hwy, _⟩ := hfr (hne r hr)
    obtain ⟨v, z, t, ev, ez, et, htl, hkz⟩ := kept_wayM hg hx hk hf hwy hy hfn.symm
    refine ⟨⟨v, [], z, [], ev, ez⟩, ?_⟩
    have ew : wthM y = z := by unfold wthM; rw [ev]; dsimp only; rw [ez]
    rw [ew]
    refine lft_ok hg d t z _ htl hkz (fun r' hr' => ?_)
    obtain ⟨f', hf', hfn', hfr'⟩ := wyP_cons (hw _ (rstI_mem.1 hr'))
    have e : f' = f := riseOneW (good_rise hg hx).1 hf' hf (by rw [hfn', hfn])
    subst e
    have := (hfr' (hne r' hr')).2
    rw [et] at this
    exact this
/-- The ways of a mask, if all its paths are ways. -/
def mskM (l : List TV) (fs : List FT) : List (List Int) → Option (List (List Int))
  | [] => some []
  | p :: ps => match wayM l (p.length + 1) fs p with
    | none => none
    | some ws => (mskM l fs ps).map (ws :: ·)
theorem mskM_wy {l : List TV} {fs : List FT} : ∀ (ps : List (List Int)) (ms : List (List Int)), mskM l fs ps = some ms → ∀ v ∈ ms, WyP l fs v
  | [], ms, h, v, hv => by cases h; cases hv
  | p :: ps, ms, h, v, hv => by
    rw [mskM] at h
    split at h
    · cases h
    · rename_i ws hws
      obtain ⟨r, hr, rfl⟩ := Option.map_eq_some_iff.1 h
      rcases List.mem_cons.1 hv with rfl | hv
      · exact ⟨_, _, hws⟩
      · exact mskM_wy ps r hr v hv
end Go.Proofs.YtmfaabedfdppcaaGreatDoor
