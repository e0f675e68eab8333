/-
  What stays of a message: left.
  Ways of typed messages: what left goes through is there.
  Masks: what stays of a message.
  Masks: what is not typed; Keep, Drop.
-/
import Derived.Test.YtkifjpaoncjokaaGreatDoorCII
import Derived.Test.YtkifjpaoncjokaaGreatDoorCBN
namespace Go.Proofs.YtkifjpaoncjokaaGreatDoor
open Go.RowKit
set_option maxRecDepth 1000000
set_option linter.unusedVariables false
set_option linter.unusedSimpArgs false
set_option maxHeartbeats 1000000
def rstI (ms : List (List Int)) (n : Int) : List (List Int) := (ms.filter (hdI n)).map List.tail
def goB (ms : List (List Int)) (n : Int) : Bool := ms.any (hdI n) && !(rstI ms n).any (fun r => decide (r.length = 0))
def arM (n : Int) (m : CM) : CF CM := ⟨n, [], [⟨0, [], [m]⟩]⟩
def lf1 (sN sU : Bool) (L : List (List Int) → CM → CM) (ms : List (List Int)) (x : CF CM) : List (CF CM) :=
  if goB ms x.num then [arM x.num (L (rstI ms x.num) (wthM x))] else if (if ms.any (hdI x.num) then sN else sU) then [x] else []
def leftM (sN sU : Bool) : Nat → List (List Int) → CM → CM
  | 0, _, m => m
  | d + 1, ms, m => CM.mk (m.fs.flatMap (lf1 sN sU (leftM sN sU d) ms)) (if sU then m.us else [])
/-- Fields that ways go through have messages within. -/
def LftOk : Nat → List (List Int) → CM → Prop
  | 0, _, _ => True
  | d + 1, ms, m => ∀ x ∈ m.fs, goB ms x.num = true → (∃ v vs z zs, x.vs = v :: vs ∧ v.ms = z :: zs) ∧ LftOk d (rstI ms x.num) (wthM x)
theorem lf1_le {sN sU : Bool} {L : List (List Int) → CM → CM} {ms : List (List Int)} (xs : List (CF CM)) : (xs.flatMap (lf1 sN sU L ms)).length ≤ xs.length := by
  induction xs with
  | nil => simp
  | cons x xs ih =>
    have : (lf1 sN sU L ms x).length ≤ 1 := by unfold lf1; by_cases h1 : goB ms x.num = true <;> by_cases h2 : ms.any (hdI x.num) = true <;> cases sN <;> cases sU <;> simp [h1, h2]
    simp only [List.flatMap_cons, List.length_append, List.length_cons]
    omega
theorem OwnA.keepL {α : Type} {f : Nat → Prop} {w w' : World} {base : Nat} {Y : Nat → Prop} {t : TypeId} {k : Nat} {E : World → (Nat → Prop) → List Value → α → Prop} (F : Fam k E) {v : Value} {xs : List α} (h : OwnA w base Y t k E v xs) (g : Keep f w w') (hv : ∀ b, v.ownBlock = some b → f b) (hY : ∀ b, Y b → f b) : OwnA w' base Y t k E v xs := by
  obtain ⟨ts, h1, h2, h3⟩ := h
  exact ⟨ts, own_keep h1 hv g, h2, fun i t x ht hx => F.go (h3 i t x ht hx) g (fun b hz => hY b hz.1) (fun b hz => ⟨hz.1, Nat.lt_of_lt_of_le hz.2.1 g.size, hz.2.2⟩)⟩
/-- What is left so far: out's block and its row. -/
def LfS (w1 : World) (Y : Nat → Prop) (d : Nat) (uv : Value) (wr : World) (oa : Option Addr) (n oc : Nat) (l : List (CF CM)) : Prop := l.length = n ∧ OwnA wr (w1.heap.size + 1) (fun b => Y b ∨ w1.heap.size + 1 ≤ b) 33 3 (FmF d) (.slice oa n oc) l ∧ Blk wr w1.heap.size 29 #[.slice oa n oc, uv] ∧ Below w1.heap.size w1 wr
theorem LfS.kept {w1 : World} {Y : Nat → Prop} {d : Nat} {uv : Value} {wr wr' : World} {oa : Option Addr} {n oc : Nat} {l : List (CF CM)} (h : LfS w1 Y d uv wr oa n oc l) (hb : Below wr.heap.size wr wr') : LfS w1 Y d uv wr' oa n oc l := ⟨h.1, h.2.1.kept (famF d) hb, h.2.2.1.kept hb, bl_then h.2.2.2 hb⟩
theorem LfS.push {w1 : World} {Y : Nat → Prop} {d : Nat} {uv : Value} {W W2 : World} {oa : Option Addr} {n oc : Nat} {l : List (CF CM)} (h : LfS w1 Y d uv W oa n oc l) (hY : ∀ b, Y b → b < w1.heap.size) (hb : Below W.heap.size W W2) {cs : List Value} {x : CF CM} (hx : FmF d W2 (fun b => Y b ∨ W.heap.size ≤ b) cs x) (hn : n ≤ 4000000) :
    ∃ la lc x1, Hid ((Builtin.append_ #[26, 26] 26 #[.slice oa n oc, .slice (some ⟨W2.heap.size, 0, none⟩) 1 1]).run Tryz.prog (W2.alloc (.cells cs.toArray 33)) = .ok (.slice la (n + 1) lc) x1) ∧ Hid (LfS w1 Y d uv (x1.setCell ⟨w1.heap.size, 0, none⟩ (.slice la (n + 1) lc)) la (n + 1) lc (l ++ [x])) ∧ Hid (Blk x1 w1.heap.size 29 #[.slice oa n oc, uv]) ∧ Hid (∀ p t cs', W.heap.size ≤ p → Blk W2 p t cs' → Blk x1 p t cs') := by
  have h2 := h.kept hb
  obtain ⟨e0, ho, hB, hbl⟩ := id h2
  have hs : w1.heap.size + 1 ≤ W2.heap.size := hB.lt
  have hs0 : w1.heap.size + 1 ≤ W.heap.size := h.2.2.1.lt
  have HZ : FmF d W2 (ZofA W2 (fun b => Y b ∨ w1.heap.size + 1 ≤ b) (.slice oa n oc)) cs x := zofA_new (famF d) h.2.1 hs0 (Fam.go (famF d) hx (Keep.refl (fun _ => True) W2) (fun _ _ => trivial) (fun b hz => hz.elim (fun q => Or.inl ⟨q, Nat.lt_succ_of_lt (hY b q)⟩) Or.inr))
  obtain ⟨la, lc, x1, HRUN, HO2, HG⟩ := OwnA.push (famF d) 33 26 56 (.agg #[.int .i64 0, .slice none 0 0, .slice none 0 0]) Tryz.underlying26 Tryz.infoF rfl (by decide) (by decide) ho HZ hs (by omega)
  rw [e0] at HRUN HO2 HG
  obtain ⟨ts, t1, -, -⟩ := ho
  have hB1 : Blk x1 w1.heap.size 29 #[.slice oa n oc, uv] := grow_blkW HG.out t1 hB (by decide)
  have ho := h2.2.1
  refine ⟨la, lc, x1, HRUN, hid ⟨by simp [e0], HO2.out.keepL (famF d) (Keep.setCell (f := (· ≠ w1.heap.size)) _ _ _ (fun hq => hq rfl)) (fun b hb2 => ?_) (fun b hb2 => ?_), hB1.set 0 _, (bl_set (hbl.trans (ho.bel HG.out (Nat.le_succ _) (by omega))) (Nat.le_refl _) _)⟩, hid hB1, hid (fun p t cs' hp hq => (HG.out.block p hq.lt (fun e => by have := (h.2.1.own e).2; omega)).trans hq)⟩
  · have := (HO2.out.own hb2).1
    show b ≠ _
    omega
  · show b ≠ _
    rcases hb2 with q | q
    · have := hY b q
      omega
    · omega
def LftA (w : World) (Z : Nat → Prop) (d : Nat) (o : CM) (e : Ending) (w' : World) : Prop := ∃ ds : List Value, e = .returned (.agg ds.toArray) ∧ MsgE w' (fun b => Z b ∨ w.heap.size ≤ b) d ds o ∧ Below w.heap.size w w'
def LftC (fn : FuncId) (sN sU : Bool) (d : Nat) : Prop := ∀ (w : World) (mask : List WV) (ma : Option Addr) (mc : Nat) (hm : RowS w AnyZ 1 (.slice ma mask.length mc) mask.length (mask.flatMap cWV)) (hw : ∀ x ∈ mask, WyZ w AnyZ x ∧ x.ws ≠ [] ∧ ∀ n ∈ x.ws, I64 n) (hn : mask.length ≤ 4000000) (Z : Nat → Prop) (cs : List Value) (m : CM) (h : MsgE w Z d cs m) (hl : LftOk d (mask.map WV.ws) m), Calls Tryz.prog 45 #[.agg cs.toArray, .slice ma mask.length mc, .func (.func fn) #[] #[]] w (LftA w Z d (leftM sN sU d (mask.map WV.ws) m))
theorem cfDone (args : Array Value) (W : World) : (callFunc 67 args).run Tryz.prog W = .ok (.enter 67 args) W := cf_enter Tryz.func67 (by kernel_rfl) (by kernel_rfl) args W
theorem anyDone (w : World) (l : List WV) (la : Option Addr) (lc : Nat) (Z : Nat → Prop) (hl : RowS w AnyZ 1 (.slice la l.length lc) l.length (l.flatMap cWV)) (hz : ∀ y ∈ l, WyZ w Z y) : Calls Tryz.prog 66 #[.slice la l.length lc, .func (.func 67) #[] #[]] w (BoW w (l.any (fun y => decide (y.ws.length = 0)))) :=
  conWy w l la lc hl _ #[] _ cfDone (fun y hy W hW => by
    obtain ⟨a, c, e, -⟩ := rowS_sl (hz y hy)
    rw [e]
    exact isDoneT W a y.ws.length c)
theorem leftStep (fn : FuncId) (sN sU : Bool) (hcf : ∀ (args : Array Value) (W : World), (callFunc fn args).run Tryz.prog W = .ok (.enter fn args) W) (hst : ∀ (b : Bool) (W : World), Calls Tryz.prog fn #[.bool b] W (BoW W (if b then sN else sU))) (d : Nat) (ih : LftC fn sN sU d) : LftC fn sN sU (d + 1) := by
  intro w mask ma mc hm hw hn Z cs m h hl
  replace h := (famM (d + 1)).old h
  obtain ⟨Y, eY⟩ : ∃ Y : Nat → Prop, Y = fun b => Z b ∧ b < w.heap.size := ⟨_, rfl⟩
  rw [← eY] at h
  have HY : Hid (∀ b, Y b → Z b ∧ b < w.heap.size) := hid (fun b hb => by rw [eY] at hb; exact hb)
  clear eY
  obtain ⟨fa, fc, ua, uc, rfl, g1, g2, l1, l2⟩ := msg_open h
  have HFS := hid fun W (hW : Below w.heap.size w W) => g1.kept hW
  have HUS := hid fun W (hW : Below w.heap.size w W) => EnsR.kept g2 hW
  have HGR := hid fun W (hW : Below w.heap.size w W) => groupedT W mask ma mc (hm.kept hW) (fun x hx => ⟨(hw x hx).1.kept hW, (hw x hx).2⟩) hn
  have HNE : Hid (∀ x ∈ mask, x.ws ≠ [] ∧ ∀ n ∈ x.ws, I64 n) := hid fun x hx => (hw x hx).2
  have HLO : Hid (LftOk (d + 1) (mask.map WV.ws) m) := hid hl
  have HN := hid hn
  have HST := hid hst
  have HIH := hid ih
  have n63 : (m.fs.length : Int) ≤ 4000000 := by omega
  have HL1 := hid l1
  clear h g1 g2 hm hw hn hl hst ih l1 l2
  have HO : Hid (leftM sN sU (d + 1) (mask.map WV.ws) m = CM.mk (m.fs.flatMap (lf1 sN sU (leftM sN sU d) (mask.map WV.ws))) (if sU then m.us else [])) := hid rfl
  generalize leftM sN sU (d + 1) (mask.map WV.ws) m = O at *
  go_enter Tryz.func45, Tryz.ntmps45
  go_wp2_with fail
  refine (HGR.out _ (by exact blBy)).mono ?_
  rintro e w1 ⟨b, rfl, hg, hbb, hb1⟩
  have BM : Hid (Blk w1 w.heap.size 29 #[.slice fa m.fs.length fc, .slice ua m.us.length uc]) := hid (((Blk.new _ _ _).kept (below_alloc _)).kept hb1)
  have BR : Hid (Blk w1 (w.heap.size + 1) 29 #[.slice none 0 0, .slice none 0 0]) := hid ((Blk.newAt (by simp)).kept hb1)
  have HB1 : Hid (Below w.heap.size w w1) := hid (bl_then (by exact blBy) hb1)
  have HS1 : Hid (w.heap.size + 2 ≤ w1.heap.size) := hid (by have := hb1.size; simpa using this)
  have HG := hid hg
  clear hg hbb hb1 HGR
  go_wp2_with fail
  refine (HST.out false _).mono ?_
  rintro e w2 ⟨rfl, hb2⟩
  have BO2 : Hid (Blk w2 w1.heap.size 29 #[.slice none 0 0, .slice none 0 0]) := hid ((Blk.new _ _ _).kept hb2)
  replace hb2 : Hid (Below w1.heap.size w1 w2) := hid (below_trans (below_alloc _) hb2)
  simp only [Bool.false_eq_true, if_false]
  obtain ⟨u, eu⟩ : ∃ u, u = (if sU then m.us else []) := ⟨_, rfl⟩
  have BM2 := hid (BM.out.kept hb2.out)
  have xm := BM2.out.cellF
  have zm := BM2.out.lt
  have xo := BO2.out.cellF
  have yo := BO2.out.frz
  have zo := BO2.out.lt
  have ne1 : w.heap.size ≠ w1.heap.size := by have := HS1.out; omega
  have ne2 : w1.heap.size ≠ w.heap.size := by omega
  have HUR : Hid (∃ (va : Option Addr) (vc : Nat), (if sU then Value.slice ua m.us.length uc else .slice none 0 0) = .slice va u.length vc ∧ ∀ W, Below w.heap.size w W → EnsR W Y (.slice va u.length vc) u) := hid (by
    cases sU with
    | true => exact ⟨ua, uc, by rw [eu]; rfl, fun W hW => by rw [eu]; exact HUS.out W hW⟩
    | false => exact ⟨none, 0, by rw [eu]; rfl, fun W hW => by rw [eu]; exact RowM.nil _ _ _ _⟩)
  obtain ⟨va, vc, ev, hur⟩ := HUR.out
  have HU := hid hur
  have HO2 : Hid (O = CM.mk (m.fs.flatMap (lf1 sN sU (leftM sN sU d) (mask.map WV.ws))) u) := hid (by rw [HO.out, eu])
  clear hur HUR HUS eu HO
  go_upto_if 17 with fail
  go_cut [] from 17 (fun wc => Hid (Blk wc w1.heap.size 29 #[.slice none 0 0, .slice va u.length vc]) ∧ Hid (Below w1.heap.size w1 wc))
  case first =>
    cases sU with
    | true =>
      go_wp2_with fail
      go_meet
      exact ⟨hid (by simp only [if_true] at ev; rw [← ev]; exact BO2.out.set 1 _), hid (by have := hb2.out; exact blBy)⟩
    | false =>
      go_wp2_with fail
      go_meet
      exact ⟨hid (by simp only [Bool.false_eq_true, if_false] at ev; rw [← ev]; exact BO2.out), hb2⟩
  case rest =>
  obtain ⟨BO, HBW⟩ := hcut
  generalize wc = wr0 at *
  clear hb2 BO2 BM2 xm zm xo yo zo ev
  obtain ⟨F, HF⟩ : ∃ F, Hid (F = lf1 sN sU (leftM sN sU d) (mask.map WV.ws)) := ⟨_, hid rfl⟩
  have HO3 : Hid (O = CM.mk (m.fs.flatMap F) u) := hid (by rw [HO2.out, HF.out])
  have HFL : Hid (∀ j, ((m.fs.take j).flatMap F).length ≤ 4000000) := hid (fun j => by rw [HF.out]; have := lf1_le (sN := sN) (sU := sU) (L := leftM sN sU d) (ms := mask.map WV.ws) (m.fs.take j); have := HL1.out; rw [List.length_take] at *; omega)
  clear HO2
  have xm := (BM.out.kept HBW.out).cellF
  have zm := (BM.out.kept HBW.out).lt
  go_wp2_with fail
  go_loopw [24] (fun r wr => ∃ (j n : Nat) (oa : Option Addr) (oc : Nat), r = .int .i64 j ∧ j ≤ m.fs.length ∧ Hid (LfS w1 Y d (.slice va u.length vc) wr oa n oc ((m.fs.take j).flatMap F))) (fun r wr => m.fs.length - numAt wr r)
  case atStart => exact ⟨0, 0, none, 0, rfl, by omega, hid ⟨rfl, OwnA.nil _ _ _ _ _ _, BO.out, HBW.out⟩⟩
  case round =>
    clear xm zm BO HBW
    obtain ⟨j, n, oa, oc, rfl, hj, HS⟩ := hrel
    by_cases hlt : j < m.fs.length
    · have j1 : (j : Int) < (m.fs.length : Int) := by omega
      have HBX : Hid (Below w.heap.size w wr) := hid (bl_then HB1.out HS.out.2.2.2)
      obtain ⟨b1, o1, ka1, kc1, va1, vc1, efa, -, hb1, c0, c1, c2, he⟩ := fls_at (HFS.out _ HBX.out) hlt
      subst efa
      have HE := hid he
      have hI : I64 m.fs[j].num := by
        obtain ⟨_, _, _, _, _, _, _, _, _, h9⟩ := fld_open he
        exact h9
      have HTK : Hid ((m.fs.take (j + 1)).flatMap F = (m.fs.take j).flatMap F ++ F m.fs[j]) := hid (by rw [List.take_succ_eq_append_getElem hlt, List.flatMap_append]; simp)
      have HLJ := hid (HLO.out m.fs[j] (List.getElem_mem hlt))
      have HLB : Hid (n ≤ 4000000) := hid (by rw [← HS.out.1]; exact HFL.out j)
      have HFX : Hid (F m.fs[j] = if goB (mask.map WV.ws) m.fs[j].num then [arM m.fs[j].num (leftM sN sU d (rstI (mask.map WV.ws) m.fs[j].num) (wthM m.fs[j]))] else if (if (mask.map WV.ws).any (hdI m.fs[j].num) then sN else sU) then [m.fs[j]] else []) := hid (by rw [HF.out]; rfl)
      clear he
      generalize m.fs[j] = x at *
      obtain ⟨rv, rg, hlk, hrg, hrr, hry⟩ := (HG.out.kept (below_trans HS.out.2.2.2 (below_alloc (w := wr) (.cells #[.int .i64 x.num, .slice ka1 x.ks.length kc1, .slice va1 x.vs.length vc1] 33)))).look hI
      have HRG : Hid (rstI (mask.map WV.ws) x.num = rg.map WV.ws) := hid hrg.symm
      obtain ⟨ra, rc, rfl, -⟩ := rowS_sl hrr
      have HRR := hid hrr
      have HRY := hid hry
      have HI := hid hI
      clear hrg hrr hry hI
      have HGB : Hid (goB (mask.map WV.ws) x.num = ((mask.map WV.ws).any (hdI x.num) && !rg.any (fun y => decide (y.ws.length = 0)))) := hid (by
        have e2 : (rg.map WV.ws).any (fun r => decide (r.length = 0)) = rg.any (fun y => decide (y.ws.length = 0)) := List.any_map
        unfold goB
        rw [HRG.out, e2])
      have HWF : Hid (goB (mask.map WV.ws) x.num = true → ∀ y ∈ rg, y.ws ≠ [] ∧ ∀ n ∈ y.ws, I64 n) := hid (fun hq y hy => by
        have hy2 : y.ws ∈ rstI (mask.map WV.ws) x.num := by rw [HRG.out]; exact List.mem_map_of_mem hy
        unfold rstI at hy2
        obtain ⟨v, hv, ev⟩ := List.mem_map.1 hy2
        obtain ⟨z, hz, rfl⟩ := List.mem_map.1 (List.mem_filter.1 hv).1
        rw [HGB.out, Bool.and_eq_true, Bool.not_eq_true', List.any_eq_false] at hq
        refine ⟨fun e => hq.2 y hy (by rw [e]; rfl), fun k hk => (HNE.out z hz).2 k ?_⟩
        rw [← ev] at hk
        exact List.mem_of_mem_tail hk)
      have HRL : Hid (rg.length ≤ 4000000) := hid (by
        have e3 := congrArg List.length HRG.out
        unfold rstI at e3
        simp only [List.length_map] at e3
        have := List.length_filter_le (hdI x.num) (mask.map WV.ws)
        have := HN.out
        rw [List.length_map] at *
        omega)
      generalize (mask.map WV.ws).any (hdI x.num) = nb at *
      cases nb with
      | false =>
        rw [Bool.false_and] at HGB
        rw [HGB.out] at HFX
        simp only [Bool.false_eq_true, if_false] at HFX
        have HST0 := hid (HST.out false)
        simp only [Bool.false_eq_true, if_false] at HST0
        go_wp2_with fail
        refine (HST0.out _).mono ?_
        rintro e w3 ⟨rfl, hb3⟩
        have Bx : Hid (Blk w3 wr.heap.size 33 #[.int .i64 x.num, .slice ka1 x.ks.length kc1, .slice va1 x.vs.length vc1]) := hid ((Blk.new _ _ _).kept hb3)
        replace hb3 : Hid (Below wr.heap.size wr w3) := hid (below_trans (below_alloc _) hb3)
        have HSF : Hid ((if sU = true then [x] else []) = F x) := hid HFX.out.symm
        generalize sU = ss at *
        clear hlk c0 c1 c2 HLJ HRG HRR HRY HGB HWF HRL HFX
        cases ss with
        | false =>
          simp only [Bool.false_eq_true, if_false] at HSF
          go_wp2
          exact ⟨⟨j + 1, n, oa, oc, by simp, by omega, hid (by rw [HTK.out, ← HSF.out, List.append_nil]; exact HS.out.kept hb3.out)⟩, by simp [numAt]; omega⟩
        | true =>
          simp only [if_true] at HSF
          obtain ⟨la, lc, x1, HRUN, HS2, HBQ, -⟩ := HS.out.push (fun b hb => by have h1 := (HY.out b hb).2; have h2 := HS1.out; omega) hb3.out (cs := [.int .i64 x.num, .slice ka1 x.ks.length kc1, .slice va1 x.vs.length vc1]) (x := x) (Fam.go (famF d) HE.out (keepT hb3.out) (fun _ _ => trivial) (fun b hb => Or.inl hb)) HLB.out
          have xx := Bx.out.cellF
          have zx := Bx.out.lt
          have xo := (HS.out.kept hb3.out).2.2.1.cellF
          have zo := (HS.out.kept hb3.out).2.2.1.lt
          have yq := HBQ.out.frz
          have zq := HBQ.out.lt
          have xq := HBQ.out.cellF
          go_wp2_with (first | (at_builtin; refine wpList_append_ran rfl _ _ 26 26 rfl rfl _ _ (.slice la (n + 1) lc) x1 rfl rfl HRUN.out ?_))
          exact ⟨⟨j + 1, n + 1, la, lc, by simp, by omega, hid (by rw [HTK.out, ← HSF.out]; exact HS2.out)⟩, by simp [numAt]; omega⟩
      | true =>
        rw [Bool.true_and] at HGB
        have HAD := hid (anyDone _ rg ra rc _ HRR.out HRY.out)
        generalize hgo : goB (mask.map WV.ws) x.num = gb at *
        have ean : rg.any (fun y => decide (y.ws.length = 0)) = !gb := by rw [HGB.out, Bool.not_not]
        rw [ean] at HAD
        cases gb with
        | false =>
          have HST0 := hid (HST.out true)
          simp only [Bool.false_eq_true, if_false, if_true, Bool.not_false] at HST0 HAD HFX
          go_wp2_with fail
          refine HAD.out.mono ?_
          rintro e w2 ⟨rfl, hb2⟩
          go_wp2_with fail
          refine (HST0.out _).mono ?_
          rintro e w3 ⟨rfl, hb3⟩
          have Bx : Hid (Blk w3 wr.heap.size 33 #[.int .i64 x.num, .slice ka1 x.ks.length kc1, .slice va1 x.vs.length vc1]) := hid (((Blk.new _ _ _).kept hb2).kept hb3)
          replace hb3 : Hid (Below wr.heap.size wr w3) := hid (below_trans (below_trans (below_alloc _) hb2) hb3)
          have HSF : Hid ((if sN = true then [x] else []) = F x) := hid HFX.out.symm
          generalize sN = ss at *
          clear hlk c0 c1 c2 HLJ HRG HRR HRY HGB HWF HRL HFX HAD
          cases ss with
          | false =>
            simp only [Bool.false_eq_true, if_false] at HSF
            go_wp2
            exact ⟨⟨j + 1, n, oa, oc, by simp, by omega, hid (by rw [HTK.out, ← HSF.out, List.append_nil]; exact HS.out.kept hb3.out)⟩, by simp [numAt]; omega⟩
          | true =>
            simp only [if_true] at HSF
            obtain ⟨la, lc, x1, HRUN, HS2, HBQ, -⟩ := HS.out.push (fun b hb => by have h1 := (HY.out b hb).2; have h2 := HS1.out; omega) hb3.out (cs := [.int .i64 x.num, .slice ka1 x.ks.length kc1, .slice va1 x.vs.length vc1]) (x := x) (Fam.go (famF d) HE.out (keepT hb3.out) (fun _ _ => trivial) (fun b hb => Or.inl hb)) HLB.out
            have xx := Bx.out.cellF
            have zx := Bx.out.lt
            have xo := (HS.out.kept hb3.out).2.2.1.cellF
            have zo := (HS.out.kept hb3.out).2.2.1.lt
            have yq := HBQ.out.frz
            have zq := HBQ.out.lt
            have xq := HBQ.out.cellF
            go_wp2_with (first | (at_builtin; refine wpList_append_ran rfl _ _ 26 26 rfl rfl _ _ (.slice la (n + 1) lc) x1 rfl rfl HRUN.out ?_))
            exact ⟨⟨j + 1, n + 1, la, lc, by simp, by omega, hid (by rw [HTK.out, ← HSF.out]; exact HS2.out)⟩, by simp [numAt]; omega⟩
        | true =>
          simp only [Bool.not_true, if_true] at HAD HFX
          obtain ⟨⟨v, vs, z, zs, ev, ez⟩, hlo⟩ := HLJ.out rfl
          have EZ : Hid (wthM x = z) := hid (by unfold wthM; rw [ev]; dsimp only; rw [ez])
          rw [HRG.out, EZ.out] at hlo HFX
          replace hlo := hid hlo
          replace ev := hid ev
          replace ez := hid ez
          go_wp2_with fail
          refine HAD.out.mono ?_
          rintro e w2 ⟨rfl, hb2⟩
          have HB2 : Hid (Below wr.heap.size wr w2) := hid (below_trans (below_alloc _) hb2)
          have Bx : Hid (Blk w2 wr.heap.size 33 #[.int .i64 x.num, .slice ka1 x.ks.length kc1, .slice va1 x.vs.length vc1]) := hid ((Blk.new _ _ _).kept hb2)
          have BQ : Hid (Blk w2 w1.heap.size 29 #[.slice oa n oc, .slice va u.length vc]) := hid (HS.out.kept HB2.out).2.2.1
          have HWT := hid fun W (hW : Below w2.heap.size w2 W) => withinT d W Y _ x (FldE.kept HE.out (below_trans HB2.out hW)) v vs ev.out z zs ez.out
          have HLF := hid fun W ds (hW : Below w2.heap.size w2 W) (hds : MsgE W Y d ds z) => (HIH.out W rg ra rc (HRR.out.kept (below_trans hb2 hW)) (fun y hy => ⟨((HRY.out y hy).kept (below_trans hb2 hW)).weak (fun _ _ => trivial), HWF.out (by first | rfl | trivial) y hy⟩) HRL.out Y ds z hds hlo.out).mono (R' := fun e w' => ∃ ds2 : List Value, e = .returned (.agg ds2.toArray) ∧ MsgE w' (fun b => Y b ∨ wr.heap.size ≤ b) d ds2 (leftM sN sU d (rg.map WV.ws) z) ∧ Below W.heap.size W w') (fun e w' h => by
            obtain ⟨ds2, h1, h2, h3⟩ := h
            exact ⟨ds2, h1, MsgE.go (Keep.refl (fun _ => True) w') (fun _ _ => trivial) (fun b hb => hb.elim Or.inl (fun q => Or.inr (Nat.le_trans (Nat.le_trans HB2.out.size hW.size) q))) d _ _ h2, h3⟩)
          generalize leftM sN sU d (rg.map WV.ws) z = M at *
          obtain ⟨ax, hax⟩ : ∃ ax, ax = arM x.num M := ⟨_, rfl⟩
          have HAR := hid fun W ds (hW : Below wr.heap.size wr W) (hds : MsgE W (fun b => Y b ∨ wr.heap.size ≤ b) d ds M) => (aroundT d W _ ds M x.num hds HI.out).mono (R' := fun e w' => ∃ es : List Value, e = .returned (.agg es.toArray) ∧ FmF d w' (fun b => Y b ∨ wr.heap.size ≤ b) es ax ∧ Below W.heap.size W w') (fun e w' h => by
            obtain ⟨ds2, h1, h2, h3⟩ := h
            rw [hax]
            exact ⟨ds2, h1, Fam.go (famF d) h2 (Keep.refl (fun _ => True) w') (fun _ _ => trivial) (fun b hb => hb.elim (fun q => q) (fun q => Or.inr (Nat.le_trans hW.size q))), h3⟩)
          have HFA : Hid (F x = [ax]) := hid (by rw [HFX.out, hax])
          have HPQ : wr.heap.size ≠ w1.heap.size := by have := HS.out.2.2.1.lt; omega
          clear hax hlo ev ez EZ HFX HLJ HRG HRR HRY HGB HWF HAD HE c0 c1 c2 hlk ean
          go_upto_region 11 with fail
          have HSK : Hid (∀ W, Below w2.heap.size w2 W → (∀ k, W.cell? ⟨wr.heap.size, k, none⟩ = #[.int .i64 x.num, .slice ka1 x.ks.length kc1, .slice va1 x.vs.length vc1][k]?) ∧ (∀ k, W.cell? ⟨w1.heap.size, k, none⟩ = #[.slice oa n oc, .slice va u.length vc][k]?)) := hid (fun W hW => ⟨(Bx.out.kept hW).cellF, (BQ.out.kept hW).cellF⟩)
          refine wp_regionL (S := SL (fun W => ∀ k, W.cell? ⟨wr.heap.size, k, none⟩ = #[.int .i64 x.num, .slice ka1 x.ks.length kc1, .slice va1 x.vs.length vc1][k]?) (fun W => ∀ k, W.cell? ⟨w1.heap.size, k, none⟩ = #[.slice oa n oc, .slice va u.length vc][k]?) 13) (by kernel_rfl) (SL.of (HSK.out _ (below_drew1 _)).1 (HSK.out _ (below_drew1 _)).2) (fun hHeld => ?_)
          refine takeL0 0 (v := ?_) rfl (by kernel_rfl) (by kernel_rfl) (by kernel_rfl) (fun _ _ _ h => h) (by kernel_rfl) (Or.inl ⟨by rfl, ?_⟩) hHeld (fun hHeld => ?_)
          rotate_left
          · (intro w hSw; (try obtain ⟨hSw, hSx⟩ := hSw); (try dsimp only at hSw); (try dsimp only at hSx); go_simp; (try with_reducible rfl))
          try simp only [Act.put, List.getElem_toArray, List.getElem_cons_succ, List.getElem_cons_zero, List.setIfInBounds_toArray, List.set_cons_zero, List.set_cons_succ]
          refine takeL1 1 (v := ?_) rfl rfl (by kernel_rfl) (by kernel_rfl) (by kernel_rfl) (by kernel_rfl) (by kernel_rfl) (fun _ _ _ h => h) (by kernel_rfl) (Or.inl ⟨by rfl, ?_⟩) hHeld (fun hHeld => ?_)
          rotate_left
          · (intro w hSw; (try obtain ⟨hSw, hSx⟩ := hSw); (try dsimp only at hSw); (try dsimp only at hSx); go_simp; (try with_reducible rfl))
          try simp only [Act.put, List.getElem_toArray, List.getElem_cons_succ, List.getElem_cons_zero, List.setIfInBounds_toArray, List.set_cons_zero, List.set_cons_succ]
          refine takeL0 2 (v := ?_) rfl (by kernel_rfl) (by kernel_rfl) (by kernel_rfl) (fun _ _ _ h => h) (by kernel_rfl) (Or.inl ⟨by rfl, ?_⟩) hHeld (fun hHeld => ?_)
          rotate_left
          · (intro w hSw; (try obtain ⟨hSw, hSx⟩ := hSw); (try dsimp only at hSw); (try dsimp only at hSx); go_simp; (try with_reducible rfl))
          try simp only [Act.put, List.getElem_toArray, List.getElem_cons_succ, List.getElem_cons_zero, List.setIfInBounds_toArray, List.set_cons_zero, List.set_cons_succ]
          refine takeL0 3 (v := ?_) rfl (by kernel_rfl) (by kernel_rfl) (by kernel_rfl) (fun _ _ _ h => h) (by kernel_rfl) (Or.inl ⟨by rfl, ?_⟩) hHeld (fun hHeld => ?_)
          rotate_left
          · (intro w hSw; (try obtain ⟨hSw, hSx⟩ := hSw); (try dsimp only at hSw); (try dsimp only at hSx); go_simp; (try with_reducible rfl))
          try simp only [Act.put, List.getElem_toArray, List.getElem_cons_succ, List.getElem_cons_zero, List.setIfInBounds_toArray, List.set_cons_zero, List.set_cons_succ]
          refine takeL0 4 (v := ?_) rfl (by kernel_rfl) (by kernel_rfl) (by kernel_rfl) (fun _ _ _ h => h) (by kernel_rfl) (Or.inl ⟨by rfl, ?_⟩) hHeld (fun hHeld => ?_)
          rotate_left
          · (intro w hSw; (try obtain ⟨hSw, hSx⟩ := hSw); (try dsimp only at hSw); (try dsimp only at hSx); go_simp; (try with_reducible rfl))
          try simp only [Act.put, List.getElem_toArray, List.getElem_cons_succ, List.getElem_cons_zero, List.setIfInBounds_toArray, List.set_cons_zero, List.set_cons_succ]
          refine takeL0 6 (v := ?_) rfl (by kernel_rfl) (by kernel_rfl) (by kernel_rfl) (fun _ _ _ h => h) (by kernel_rfl) (Or.inl ⟨by rfl, ?_⟩) hHeld (fun hHeld => ?_)
          rotate_left
          · (intro w hSw; (try obtain ⟨hSw, hSx⟩ := hSw); (try dsimp only at hSw); (try dsimp only at hSx); go_simp; (try with_reducible rfl))
          try simp only [Act.put, List.getElem_toArray, List.getElem_cons_succ, List.getElem_cons_zero, List.setIfInBounds_toArray, List.set_cons_zero, List.set_cons_succ]
          refine takeL0 7 (v := ?_) rfl (by kernel_rfl) (by kernel_rfl) (by kernel_rfl) (fun _ _ _ h => h) (by kernel_rfl) (Or.inl ⟨by rfl, ?_⟩) hHeld (fun hHeld => ?_)
          rotate_left
          · (intro w hSw; (try obtain ⟨hSw, hSx⟩ := hSw); (try dsimp only at hSw); (try dsimp only at hSx); go_simp; (try with_reducible rfl))
          try simp only [Act.put, List.getElem_toArray, List.getElem_cons_succ, List.getElem_cons_zero, List.setIfInBounds_toArray, List.set_cons_zero, List.set_cons_succ]
          refine wpAnyL_ready (rs := [5]) (by kernel_rfl) (by simp) ?_
          refine AllReadyL.cons rfl (fun K hK => ?_) AllReadyL.nil
          go_wp2_with (go_at_call 44; refine (HWT.out _ (below_drew1 _)).mono ?_; rintro e w4 ⟨ds, rfl, hds, hb4⟩)
          replace hb4 : Hid (Below w2.heap.size w2 w4) := hid (below_trans (below_drew1 _) hb4)
          have HDS := hid hds
          obtain ⟨fa2, fc2, ua2, uc2, rfl, -⟩ := msg_openD hds
          clear hds
          refine hK.out _ _ (SL.of (HSK.out _ hb4.out).1 (HSK.out _ hb4.out).2) (fun hHeld => ?_)
          clear hK K
          try simp only [Act.put, List.getElem_toArray, List.getElem_cons_succ, List.getElem_cons_zero, List.setIfInBounds_toArray, List.set_cons_zero, List.set_cons_succ]
          refine wpAnyL_ready (rs := [8]) (by kernel_rfl) (by simp) ?_
          refine AllReadyL.cons rfl (fun K hK => ?_) AllReadyL.nil
          have HL4 := hid (HLF.out w4 [.slice fa2 z.fs.length fc2, .slice ua2 z.us.length uc2] hb4.out HDS.out)
          go_simp
          refine HL4.out.mono ?_
          rintro e w5 ⟨ds2, rfl, hds, hb5⟩
          dsimp only
          replace hb5 : Hid (Below w2.heap.size w2 w5) := hid (below_trans hb4.out hb5)
          have HDS2 := hid hds
          obtain ⟨fa3, fc3, ua3, uc3, rfl, -⟩ := msg_openD hds
          clear hds HDS
          refine hK.out _ _ (SL.of (HSK.out _ hb5.out).1 (HSK.out _ hb5.out).2) (fun hHeld => ?_)
          clear hK K
          try simp only [Act.put, List.getElem_toArray, List.getElem_cons_succ, List.getElem_cons_zero, List.setIfInBounds_toArray, List.set_cons_zero, List.set_cons_succ]
          refine wpAnyL_ready (rs := [9]) (by kernel_rfl) (by simp) ?_
          refine AllReadyL.cons rfl (fun K hK => ?_) AllReadyL.nil
          have HA5 := hid (HAR.out w5 [.slice fa3 M.fs.length fc3, .slice ua3 M.us.length uc3] (below_trans HB2.out hb5.out) HDS2.out)
          go_simp
          refine HA5.out.mono ?_
          rintro e w6 ⟨es, rfl, hes, hb6⟩
          dsimp only
          replace hb6 : Hid (Below w2.heap.size w2 w6) := hid (below_trans hb5.out hb6)
          have HES := hid hes
          obtain ⟨ka2, kc2, va2, vc2, rfl, -⟩ := fld_open hes
          clear hes HDS2
          refine hK.out _ _ (SL.of (HSK.out _ hb6.out).1 (HSK.out _ hb6.out).2) (fun hHeld => ?_)
          clear hK K
          try simp only [Act.put, List.getElem_toArray, List.getElem_cons_succ, List.getElem_cons_zero, List.setIfInBounds_toArray, List.set_cons_zero, List.set_cons_succ]
          obtain ⟨la, lc, x1, HRUN, HS2, HBQ, HKP⟩ := HS.out.push (fun b hb => by have h1 := (HY.out b hb).2; have h2 := HS1.out; omega) (below_trans HB2.out hb6.out) HES.out HLB.out
          refine wpAnyL_ready (rs := [10]) (by kernel_rfl) (by simp) ?_
          refine AllReadyL.cons rfl (fun K hK => ?_) AllReadyL.nil
          go_simp
          refine hK.out _ _ (SL.of (HSK.out _ (below_trans hb6.out (below_alloc _))).1 (HSK.out _ (below_trans hb6.out (below_alloc _))).2) (fun hHeld => ?_)
          clear hK K
          try simp only [Act.put, List.getElem_toArray, List.getElem_cons_succ, List.getElem_cons_zero, List.setIfInBounds_toArray, List.set_cons_zero, List.set_cons_succ]
          refine wpAnyL_ready (rs := [11]) (by kernel_rfl) (by simp) ?_
          refine AllReadyL.cons rfl (fun K hK => ?_) AllReadyL.nil
          refine step_append_ran rfl _ _ 26 26 rfl rfl _ _ (.slice la (n + 1) lc) x1 rfl rfl HRUN.out ?_
          have BX1 := hid (HKP.out _ _ _ (Nat.le_refl _) (Bx.out.kept hb6.out))
          refine hK.out _ _ (SL.of BX1.out.cellF HBQ.out.cellF) (fun hHeld => ?_)
          clear hK K
          try simp only [Act.put, List.getElem_toArray, List.getElem_cons_succ, List.getElem_cons_zero, List.setIfInBounds_toArray, List.set_cons_zero, List.set_cons_succ]
          refine takeL0 12 (v := ?_) rfl (by kernel_rfl) (by kernel_rfl) (by kernel_rfl) (fun _ _ _ h => h) (by kernel_rfl) (Or.inl ⟨by rfl, ?_⟩) hHeld (fun hHeld => ?_)
          rotate_left
          · (intro w hSw; (try obtain ⟨hSw, hSx⟩ := hSw); (try dsimp only at hSw); (try dsimp only at hSx); go_simp; (try with_reducible rfl))
          try simp only [Act.put, List.getElem_toArray, List.getElem_cons_succ, List.getElem_cons_zero, List.setIfInBounds_toArray, List.set_cons_zero, List.set_cons_succ]
          have yq := HBQ.out.frz
          have zq := HBQ.out.lt
          have xq := HBQ.out.cellF
          refine wpAnyL_ready (rs := [13]) (by kernel_rfl) (by simp) ?_
          refine AllReadyL.cons rfl (fun K hK => ?_) AllReadyL.nil
          go_simp
          refine hK.out _ _ (SL.late (BX1.out.other HPQ _).cellF (by kernel_rfl)) (fun hHeld => ?_)
          clear hK K
          try simp only [Act.put, List.getElem_toArray, List.getElem_cons_succ, List.getElem_cons_zero, List.setIfInBounds_toArray, List.set_cons_zero, List.set_cons_succ]
          refine wpAnyL_done (by kernel_rfl) ?_ _
          clear xq yq zq hHeld
          go_wp2
          exact ⟨⟨j + 1, n + 1, la, lc, by simp, by omega, hid (by rw [HTK.out, HFA.out]; exact HS2.out)⟩, by simp [numAt]; omega⟩
    · have j1 : ¬ (j : Int) < (m.fs.length : Int) := by omega
      have HSE := HS
      rw [List.take_of_length_le (by omega)] at HSE
      have HRW := hid (HSE.out.2.1.row (famF d) (by have := HFL.out m.fs.length; rwa [List.take_length] at this))
      have xo := HS.out.2.2.1.cellF
      have yo := HS.out.2.2.1.frz
      have zo := HS.out.2.2.1.lt
      have BR2 := hid (BR.out.kept HS.out.2.2.2)
      have xr := BR2.out.cellF
      have yr := BR2.out.frz
      have zr := BR2.out.lt
      have ne3 : w1.heap.size ≠ w.heap.size + 1 := by have := HS1.out; omega
      have HFN : Hid (∀ W', Keep (· ≠ w.heap.size + 1) wr W' → MsgE W' (fun b => Z b ∨ w.heap.size ≤ b) (d + 1) [.slice oa n oc, .slice va u.length vc] O) := hid (fun W' hW => by
        have h1 := HS1.out
        rw [HO3.out]
        refine ⟨_, _, rfl, FlsR.go HRW.out hW (fun b hb => ?_) (fun b hb => ?_), EnsR.go (HU.out wr (bl_then HB1.out HS.out.2.2.2)) hW (fun b hb => ?_) (fun b hb => Or.inl (HY.out b hb).1)⟩
        · show b ≠ _
          rcases hb with (q | q) | q
          · have := (HY.out b q).2
            omega
          · omega
          · omega
        · rcases hb with (q | q) | q
          · exact Or.inl (HY.out b q).1
          · exact Or.inr (by omega)
          · exact Or.inr (by omega)
        · show b ≠ _
          have := (HY.out b hb).2
          omega)
      have HBE : Hid (Below w.heap.size w wr) := hid (bl_then HB1.out HS.out.2.2.2)
      go_wp2
      exact bodyPost_ret (v := .agg #[.slice oa n oc, .slice va u.length vc]) (by simp [results, Tryz.results45, go_sem, xr, zr, yr]) rfl ⟨[.slice oa n oc, .slice va u.length vc], rfl, HFN.out _ ((Keep.setCell (f := (· ≠ w.heap.size + 1)) _ _ _ (fun hq => hq rfl)).trans (Keep.setCell _ _ _ (fun hq => hq rfl))), by have := HBE.out; exact blBy⟩
theorem leftT (fn : FuncId) (sN sU : Bool) (hcf : ∀ (args : Array Value) (W : World), (callFunc fn args).run Tryz.prog W = .ok (.enter fn args) W) (hst : ∀ (b : Bool) (W : World), Calls Tryz.prog fn #[.bool b] W (BoW W (if b then sN else sU))) (d : Nat) : LftC fn sN sU d := by
  induction d with
  | zero => exact fun w mask ma mc hm hw hn Z cs m h hl => (h : False).elim
  | succ d ih => exact leftStep fn sN sU hcf hst d ih
theorem keepSt (b : Bool) (W : World) : Calls Tryz.prog 28 #[.bool b] W (BoW W (if b then true else false)) := by
  cases b
  · go_enter Tryz.func28, Tryz.ntmps28
    go_wp2
    go_ret
    exact ⟨ret_bool rfl, by first | exact Below.refl _ _ | exact blBy⟩
  · go_enter Tryz.func28, Tryz.ntmps28
    go_wp2
    go_ret
    exact ⟨ret_bool rfl, by first | exact Below.refl _ _ | exact blBy⟩
theorem dropSt (b : Bool) (W : World) : Calls Tryz.prog 29 #[.bool b] W (BoW W (if b then false else true)) := by
  cases b
  · go_enter Tryz.func29, Tryz.ntmps29
    go_wp2
    go_ret
    exact ⟨ret_bool rfl, by first | exact Below.refl _ _ | exact blBy⟩
  · go_enter Tryz.func29, Tryz.ntmps29
    go_wp2
    go_ret
    exact ⟨ret_bool rfl, by first | exact Below.refl _ _ | exact blBy⟩
theorem keepL (d : Nat) : LftC 28 true false d := leftT _ _ _ (cf_enter Tryz.func28 (by kernel_rfl) (by kernel_rfl)) keepSt d
theorem dropL (d : Nat) : LftC 29 false true d := leftT _ _ _ (cf_enter Tryz.func29 (by kernel_rfl) (by kernel_rfl)) dropSt d
set_option maxHeartbeats 600000
def WyP (l : List TV) (fs : List FT) (ws : List Int) : Prop := ∃ n p, wayM l n fs p = some ws
theorem wyP_cons {l : List TV} {fs : List FT} {k : Int} {r : List Int} (h : WyP l fs (k :: r)) : ∃ f ∈ fs, f.num = k ∧ (r ≠ [] → isWyB f = true ∧ WyP l ((l[f.ref.toNat]?).elim [] (·.t.fs)) r) := by
  obtain ⟨n, p, h⟩ := h
  cases n with
  | zero => cases h
  | succ n =>
    rw [wayM] at h
    split at h
    · cases h
    · rename_i f hf
      have hfm := List.mem_of_find?_eq_some hf
      split at h
      · split at h
        · rename_i hG hW
          obtain ⟨r', hr, e⟩ := Option.map_eq_some_iff.1 h
          cases e
          exact ⟨f, hfm, rfl, fun _ => ⟨hW, n, _, hr⟩⟩
        · cases h
      · cases h
        exact ⟨f, hfm, rfl, fun q => absurd rfl q⟩
theorem wyP_ne {l : List TV} {fs : List FT} {ws : List Int} (h : WyP l fs ws) : ws ≠ [] := by
  obtain ⟨n, p, h⟩ := h
  exact way_ne _ _ _ _ h
theorem kept_wayM {l : List TV} (hg : goodB l = true) {d : Nat} {x : TV} (hx : x ∈ l) {m : CM} (h : keptB l (d + 1) x m = true) {f : FT} (hf : f ∈ x.t.fs) (hw : isWyB f = true) {y : CF CM} (hm : y ∈ m.fs) (hn : y.num = f.num) : ∃ v z t, y.vs = [v] ∧ v.ms = [z] ∧ l[f.ref.toNat]? = some t ∧ t ∈ l ∧ keptB l d t z = true := by
  unfold isWyB at hw
  simp only [Bool.and_eq_true, decide_eq_true_eq] at hw
  obtain ⟨k1, k2, k3⟩ := kept_ms h hm
  have ho := ownF_hasF k1
  have eo : ownF x.t.fs y.num = f := riseOneW (good_rise hg hx).1 ho.1 hf (by rw [ho.2, hn])
  have hs := kept_shape h hm
  rw [eo, hw.1] at hs
  unfold shapeB at hs
  rw [if_neg (by decide), if_neg (by decide)] at hs
  simp only [Bool.and_eq_true, decide_eq_true_eq] at hs
  obtain ⟨v, ev⟩ : ∃ v, y.vs = [v] := by
    match y.vs, hs.2 with
    | [v], _ => exact ⟨v, rfl⟩
  obtain ⟨z, ez⟩ := (k3 v (by rw [ev]; simp)).2 (by rw [eo]; exact hw.2)
  obtain ⟨r0, r1⟩ := good_refs hg hx hf
  have et : l[f.ref.toNat]? = some l[f.ref.toNat] := List.getElem?_eq_getElem r1
  refine ⟨v, z, l[f.ref.toNat], ev, ez, et, List.getElem_mem r1, ?_⟩
  have := (kept_all h).2 y hm z (by unfold allM; simp [ev, ez])
  unfold blwB at this
  rw [eo, et] at this
  exact this
theorem rstI_mem {ms : List (List Int)} {n : Int} {r : List Int} : r ∈ rstI ms n ↔ (n :: r) ∈ ms := by
  unfold rstI
  rw [List.mem_map]
  constructor
  · rintro ⟨v, hv, rfl⟩
    obtain ⟨h1, h2⟩ := List.mem_filter.1 hv
    match v, h2, h1 with
    | a :: t, h2, h1 =>
      have e : a = n := by simpa [hdI] using h2
      subst e
      exact h1
  · intro h
    exact ⟨n :: r, List.mem_filter.2 ⟨h, by simp [hdI]⟩, rfl⟩
theorem goB_iff {ms : List (List Int)} {n : Int} : goB ms n = true ↔ (∃ r, r ∈ rstI ms n) ∧ ∀ r ∈ rstI ms n, r ≠ [] := by
  unfold goB
  rw [Bool.and_eq_true, Bool.not_eq_true', List.any_eq_false]
  constructor
  · rintro ⟨h1, h2⟩
    obtain ⟨v, hv, hd⟩ := List.any_eq_true.1 h1
    refine ⟨⟨v.tail, List.mem_map.2 ⟨v, List.mem_filter.2 ⟨hv, hd⟩, rfl⟩⟩, fun r hr e => ?_⟩
    exact h2 r hr (by rw [e]; rfl)
  · rintro ⟨⟨r, hr⟩, h2⟩
    refine ⟨List.any_eq_true.2 ⟨_, rstI_mem.1 hr, by simp [hdI]⟩, fun r hr q => h2 r hr ?_⟩
    exact List.eq_nil_of_length_eq_zero (of_decide_eq_true q)
theorem lft_ok {l : List TV} (hg : goodB l = true) : ∀ (d : Nat) (x : TV) (m : CM) (ms : List (List Int)), x ∈ l → keptB l d x m = true → (∀ v ∈ ms, WyP l x.t.fs v) → LftOk d ms m
  | 0, _, _, _, _, _, _ => trivial
  | d + 1, x, m, ms, hx, hk, hw => by
    intro y hy hgo
    obtain ⟨⟨r, hr⟩, hne⟩ := goB_iff.1 hgo
    obtain ⟨f, hf, hfn, hfr⟩ := wyP_cons (hw _ (rstI_mem.1 hr))
    obtain ⟨hwy, _⟩ := hfr (hne r hr)
    obtain ⟨v, z, t, ev, ez, et, htl, hkz⟩ := kept_wayM hg hx hk hf hwy hy hfn.symm
    refine ⟨⟨v, [], z, [], ev, ez⟩, ?_⟩
    have ew : wthM y = z := by unfold wthM; rw [ev]; dsimp only; rw [ez]
    rw [ew]
    refine lft_ok hg d t z _ htl hkz (fun r' hr' => ?_)
    obtain ⟨f', hf', hfn', hfr'⟩ := wyP_cons (hw _ (rstI_mem.1 hr'))
    have e : f' = f := riseOneW (good_rise hg hx).1 hf' hf (by rw [hfn', hfn])
    subst e
    have := (hfr' (hne r' hr')).2
    rw [et] at this
    exact this
/-- The ways of a mask, if all its paths are ways. -/
def mskM (l : List TV) (fs : List FT) : List (List Int) → Option (List (List Int))
  | [] => some []
  | p :: ps => match wayM l (p.length + 1) fs p with
    | none => none
    | some ws => (mskM l fs ps).map (ws :: ·)
theorem mskM_wy {l : List TV} {fs : List FT} : ∀ (ps : List (List Int)) (ms : List (List Int)), mskM l fs ps = some ms → ∀ v ∈ ms, WyP l fs v
  | [], ms, h, v, hv => by cases h; cases hv
  | p :: ps, ms, h, v, hv => by
    rw [mskM] at h
    split at h
    · cases h
    · rename_i ws hws
      obtain ⟨r, hr, rfl⟩ := Option.map_eq_some_iff.1 h
      rcases List.mem_cons.1 hv with rfl | hv
      · exact ⟨_, _, hws⟩
      · exact mskM_wy ps r hr v hv
set_option maxHeartbeats 1000000
theorem riseA_bd : ∀ (fs : List FT) (z : Int), riseA fs z = true → z ≤ 536870911 ∧ ∀ f ∈ fs, z < f.num ∧ f.num ≤ 536870911
  | [], z, h => ⟨of_decide_eq_true h, fun f hf => by cases hf⟩
  | f :: r, z, h => by
    rw [riseA] at h
    split at h
    · cases h
    · rename_i q
      obtain ⟨h1, h2⟩ := riseA_bd r f.num h
      refine ⟨by omega, fun g hg => ?_⟩
      rcases List.mem_cons.1 hg with rfl | hg
      · omega
      · have := h2 g hg
        omega
theorem good_num {l : List TV} (hg : goodB l = true) {x : TV} (hx : x ∈ l) {f : FT} (hf : f ∈ x.t.fs) : I64 f.num := by
  obtain ⟨k, hk, rfl⟩ := List.mem_iff_getElem.1 hx
  have h := good_at hg hk
  unfold stepB typB at h
  cases he : l[k].t.enum with
  | false =>
    rw [he] at h
    simp only [Bool.and_eq_true, Bool.false_eq_true, if_false] at h
    have h2 := h.2.2.2
    unfold msgB at h2
    simp only [Bool.and_eq_true] at h2
    have := (riseA_bd _ _ h2.2.2.2.1).2 f hf
    unfold I64
    omega
  | true =>
    rw [he] at h
    simp only [Bool.and_eq_true, if_true, decide_eq_true_eq] at h
    have h3 : l[k].t.fs.length = 0 := by have := h.2.2.2.1; omega
    rw [List.eq_nil_of_length_eq_zero h3] at hf
    cases hf
theorem wyP_num {l : List TV} (hg : goodB l = true) : ∀ (ws : List Int) (x : TV), x ∈ l → WyP l x.t.fs ws → ∀ n ∈ ws, I64 n
  | [], _, _, _, n, hn => by cases hn
  | k :: r, x, hx, h, n, hn => by
    obtain ⟨f, hf, rfl, hr⟩ := wyP_cons h
    rcases List.mem_cons.1 hn with rfl | hn
    · exact good_num hg hx hf
    · have hne : r ≠ [] := fun e => by rw [e] at hn; cases hn
      obtain ⟨-, hw⟩ := hr hne
      obtain ⟨r0, r1⟩ := good_refs hg hx hf
      rw [List.getElem?_eq_getElem r1] at hw
      exact wyP_num hg r _ (List.getElem_mem r1) hw n hn
def cSg (p : List Int) : List Value := [.string (strOfNums p)]
/-- What a mask leaves, and the code. -/
def mskR (sN sU : Bool) (d : Nat) (o : Option (List (List Int))) (m : CM) : CM × Int := match o with
  | none => (CM.mk [] [], 12)
  | some ws => (leftM sN sU d ws m, 0)
def MskA (d : Nat) (w : World) (o : CM × Int) (e : Ending) (w' : World) : Prop := ∃ cs : List Value, e = .returned (.tuple #[.agg cs.toArray, .int .i64 o.2]) ∧ MsgE w' (w.heap.size ≤ ·) d cs o.1 ∧ Below w.heap.size w w'
/-- The ways so far. -/
def WsS (B : Nat) (w : World) (a : Option Addr) (n c : Nat) (ws : List WV) : Prop := ws.length = n ∧ w.ownsRow B 73 1 (.slice a n c) ws.length (ws.flatMap cWV) ∧ ∀ y ∈ ws, WyZ w (fun b => (Value.slice a n c).ownBlock ≠ some b) y
theorem WsS.kept {B : Nat} {w w' : World} {a : Option Addr} {n c : Nat} {ws : List WV} (h : WsS B w a n c ws) (hb : Below w.heap.size w w') : WsS B w' a n c ws := ⟨h.1, own_kept h.2.1 hb, fun y hy => RowS.kept (h.2.2 y hy) hb⟩
theorem WsS.push {B : Nat} {W W2 : World} {a : Option Addr} {n c : Nat} {ws : List WV} (h : WsS B W a n c ws) (hb : Below W.heap.size W W2) (y : WV) (hy : y.sv.oneCell' = true) (ho : W2.ownsRow W.heap.size 3 1 y.sv y.ws.length (y.ws.flatMap cI64)) (hB : B ≤ W.heap.size) (hn : n ≤ 4000000) :
    ∃ a' c' w', Hid ((Builtin.append_ #[101, 101] 101 #[.slice a n c, .slice (some ⟨W2.heap.size, 0, none⟩) 1 1]).run Tryz.prog (W2.alloc (.cells #[y.sv] 73)) = .ok (.slice a' (n + 1) c') w') ∧ Hid (WsS B w' a' (n + 1) c' (ws ++ [y])) ∧ Hid (Keep (· < B) W2 w') := by
  obtain ⟨e0, h1, h2⟩ := h.kept hb
  obtain ⟨a', c', w', HR, HO, HG⟩ := appendWs B (.slice a n c) ws y W2 hy h1 (Nat.le_trans hB hb.size) (by omega)
  rw [e0] at HR HO HG
  have hK : Keep (fun b => (Value.slice a n c).ownBlock ≠ some b) W2 w' := Keep.ofGrow HG.out (fun _ hk => hk)
  have tr : ∀ {z : WV}, WyZ W2 (fun b => (Value.slice a n c).ownBlock ≠ some b) z → WyZ w' (fun b => (Value.slice a' (n + 1) c').ownBlock ≠ some b) z := fun {z} hz => by
    have hz2 : WyZ W2 (fun b => (Value.slice a n c).ownBlock ≠ some b ∧ b < W2.heap.size) z := row_oldZ (by decide) hz
    refine RowS.weak (RowS.keep hz2 hK (fun b hb => hb.1)) (fun b hb e => ?_)
    rcases HG.out.own with q | q
    · rw [q] at e; exact hb.1 e
    · have := q b e
      have := hb.2
      omega
  refine ⟨a', c', w', HR, hid ⟨by simp [e0], HO.out, fun z hz => ?_⟩, hid (growKeep HG.out h1)⟩
  rcases List.mem_append.1 hz with hz | hz
  · exact tr (h2 z hz)
  · rw [List.mem_singleton] at hz
    subst hz
    refine tr (own_row ho (fun b hb e => ?_))
    have g1 := (own_type ho hb).1
    have g2 := (own_type h.2.1 e).2.1
    omega
theorem mskM_snoc {l : List TV} {fs : List FT} (p : List Int) (ws : List Int) (hp : wayM l (p.length + 1) fs p = some ws) : ∀ (ps ms : List (List Int)), mskM l fs ps = some ms → mskM l fs (ps ++ [p]) = some (ms ++ [ws])
  | [], ms, h => by cases h; simp only [List.nil_append]; rw [mskM, hp]; rfl
  | q :: ps, ms, h => by
    rw [mskM] at h
    split at h
    · cases h
    · rename_i v hv
      obtain ⟨r, hr, rfl⟩ := Option.map_eq_some_iff.1 h
      rw [List.cons_append, mskM, hv]
      dsimp only
      rw [mskM_snoc p ws hp ps r hr]
      rfl
theorem mskM_none {l : List TV} {fs : List FT} (p : List Int) (hp : wayM l (p.length + 1) fs p = none) : ∀ (ps : List (List Int)), p ∈ ps → mskM l fs ps = none
  | q :: ps, h => by
    rcases List.mem_cons.1 h with rfl | h
    · rw [mskM, hp]
    · rw [mskM]
      split
      · rfl
      · rw [mskM_none p hp ps h]; rfl
theorem maskedT (fn : FuncId) (sN sU : Bool) (w : World) (l : List TV) (ta : Option Addr) (tc : Nat) (h : TbR w (.slice ta l.length tc) l) (hk : ∀ x ∈ l, OkV x) (mx : Int) (hm0 : w.cell? ⟨0, 0, none⟩ = some (.int .i64 mx)) (k : Nat) (hkl : k < l.length) (hg : goodB l = true) (he : l[k].t.enum = false) (Z : Nat → Prop) (d : Nat) (hL : LftC fn sN sU (d + 1)) (cs : List Value) (m : CM) (hm : MsgE w Z (d + 1) cs m) (ka : keptB l (d + 1) l[k] m = true) (ps : List (List Int)) (pa : Option Addr) (pc : Nat) (hps : RowS w AnyZ 1 (.slice pa ps.length pc) ps.length (ps.flatMap cSg)) (hpt : ∀ p ∈ ps, TxA p ∧ PLn p) (hpn : ps.length ≤ 4000000) : Calls Tryz.prog 27 #[.agg #[.slice ta l.length tc], .int .i64 (k : Int), .agg cs.toArray, .slice pa ps.length pc, .func (.func fn) #[] #[]] w (MskA (d + 1) w (mskR sN sU (d + 1) (mskM l l[k].t.fs ps) m)) := by
  have HWY := hid fun W (hW : Below w.heap.size w W) p (hp : p ∈ ps) => wayOfT W l ta tc (h.kept hW) hk hg mx (cell_below hm0 hW) l[k] (List.getElem_mem hkl) p (hpt p hp).1 (hpt p hp).2
  have HWN := hid fun ws (hws : WyP l l[k].t.fs ws) => wyP_num hg ws l[k] (List.getElem_mem hkl) hws
  have HLO := hid fun ms (hms : ∀ v ∈ ms, WyP l l[k].t.fs v) => lft_ok hg (d + 1) l[k] m ms (List.getElem_mem hkl) ka hms
  obtain ⟨fa, fc, ua, uc, rfl, -⟩ := msg_openD hm
  have HMS := hid fun W (hW : Below w.heap.size w W) => (hm.kept hW)
  have HTA := hid fun W (hW : Below w.heap.size w W) q (hz : w.heap.size ≤ q) (hq : Blk W q 29 #[.slice fa m.fs.length fc, .slice ua m.us.length uc]) => tAtOk W l ta tc (h.kept hW) hk mx (cell_below hm0 hW) k hkl hg he (fun b => Z b ∨ w.heap.size ≤ b) (d + 1) [m] (some ⟨q, 0, none⟩) 1 (mgs1 (MsgE.go (keepT hW) (fun _ _ => trivial) (fun b h => Or.inl h) (d + 1) _ _ hm) (Or.inr hz) hq) (by simp [ka])
  obtain ⟨a1, c1, a2, c2, a3, c3, a4, c4, e1, e2, e3, e4⟩ := shT_of (h.ty l[k] (List.getElem_mem hkl))
  have ec : cTV l[k] = [.string (strOfNums l[k].t.name), .bool l[k].t.enum, .slice a1 l[k].t.fs.length c1, .slice a2 l[k].t.os.length c2, .slice a3 l[k].t.ss.length c3, .slice a4 l[k].t.rs.length c4] := by unfold cTV; rw [e1, e2, e3, e4]
  rw [ec] at HWY HTA
  have HPS := hid hps
  have n63 : (ps.length : Int) ≤ 4000000 := by omega
  have HPN := hid hpn
  have HLC := hid hL
  obtain ⟨O, HO⟩ : ∃ O, Hid (O = mskR sN sU (d + 1) (mskM l l[k].t.fs ps) m) := ⟨_, hid rfl⟩
  rw [← HO.out]
  clear h hk hm0 hg he hm ka hps hpt hpn hL e1 e2 e3 e4 ec
  generalize l[k] = x at *
  go_enter Tryz.func27, Tryz.ntmps27
  go_wp2_with fail
  refine (HTA.out _ (by exact blBy) _ ?_ (Blk.newAt (by simp))).mono ?_
  · omega
  rintro e w1 ⟨rfl, hbx⟩
  have BT : Hid (Blk w1 w.heap.size 24 #[.slice ta l.length tc]) := hid (((((Blk.new _ _ _).kept (below_alloc _)).kept (below_alloc _)).kept (below_alloc _)).kept hbx)
  have BA : Hid (Blk w1 (w.heap.size + 1) 29 #[.slice fa m.fs.length fc, .slice ua m.us.length uc]) := hid ((((Blk.newAt (by simp)).kept (below_alloc _)).kept (below_alloc _)).kept hbx)
  have BR : Hid (Blk w1 (w.heap.size + 1 + 1) 29 #[.slice none 0 0, .slice none 0 0]) := hid (((Blk.newAt (by simp)).kept (below_alloc _)).kept hbx)
  have HB1 : Hid (Below w.heap.size w w1) := hid (bl_then (by exact blBy) hbx)
  have HS1 : Hid (w.heap.size + 4 ≤ w1.heap.size) := hid (by have := hbx.size; simpa using this)
  clear hbx HTA
  have xt := BT.out.cellF
  have zt := BT.out.lt
  go_wp2_with fail
  go_loopw [14, 33] (fun s14 s33 wr => ∃ (j n : Nat) (oa : Option Addr) (oc : Nat) (ws : List WV), s14 = .slice oa n oc ∧ s33 = .int .i64 j ∧ j ≤ ps.length ∧ n ≤ j ∧ Hid (mskM l x.t.fs (ps.take j) = some (ws.map WV.ws)) ∧ Hid (WsS (w1.heap.size + 1) wr oa n oc ws) ∧ Hid (Blk wr w1.heap.size 63 #[.string (strOfNums x.t.name), .bool x.t.enum, .slice a1 x.t.fs.length c1, .slice a2 x.t.os.length c2, .slice a3 x.t.ss.length c3, .slice a4 x.t.rs.length c4]) ∧ Hid (Below w1.heap.size w1 wr)) (fun s14 s33 wr => ps.length - numAt wr s33)
  case atStart => exact ⟨0, 0, none, 0, [], rfl, rfl, by omega, by omega, hid rfl, hid ⟨rfl, World.ownsRow_nil _ _ _ _, fun y hy => by cases hy⟩, hid (Blk.new _ _ _), hid (below_alloc _)⟩
  case round =>
    clear xt zt
    obtain ⟨j, n, oa, oc, ws, rfl, rfl, hj, hnj, HM, HS, BX, hb⟩ := hrel
    have xt := (BT.out.kept hb.out).cellF
    have zt := (BT.out.kept hb.out).lt
    have xx := BX.out.cellF
    have zx := BX.out.lt
    have BR2 := hid (BR.out.kept hb.out)
    have xr := BR2.out.cellF
    have zr := BR2.out.lt
    have yr := BR2.out.frz
    by_cases hlt : j < ps.length
    · have j1 : (j : Int) < (ps.length : Int) := by omega
      have HBW : Hid (Below w.heap.size w wr) := hid (bl_then HB1.out hb.out)
      obtain ⟨pb, po, epb, hc⟩ := rowAt (g := cSg) (fun _ => rfl) (HPS.out.kept HBW.out) (i := j) (x := ps[j]) (by simp [hlt])
      have c0 := hc 0 _ rfl
      clear hc
      subst epb
      simp only [Nat.mul_one, Nat.add_zero] at c0
      have hpb : pb < wr.heap.size := World.block_lt_of_cell? _ _ c0
      have HTK : Hid (ps.take (j + 1) = ps.take j ++ [ps[j]]) := hid (List.take_succ_eq_append_getElem hlt)
      have HPI := hid (List.getElem_mem hlt)
      generalize ps[j] = p at *
      go_wp2_with fail
      refine (HWY.out _ (by have := HBW.out; first | exact this | exact blBy) p HPI.out).mono ?_
      rintro e w2 ⟨hb2, hres⟩
      generalize hwo : wayM l (p.length + 1) x.t.fs p = wo at hres
      have HWO := hid hwo
      clear hwo
      have HB2 := hid hb2
      have BR3 := hid (BR2.out.kept hb2)
      clear xt zt xx zx xr zr yr c0 hb2
      have xr := BR3.out.cellF
      have zr := BR3.out.lt
      have yr := BR3.out.frz
      cases wo with
      | none =>
        dsimp only at hres
        subst hres
        have HOE : Hid (O = (CM.mk [] [], 12)) := hid (by rw [HO.out, mskM_none p HWO.out ps HPI.out]; rfl)
        have HBE : Hid (Below w.heap.size w w2) := hid (bl_then HBW.out HB2.out)
        go_wp2
        exact bodyPost_ret (v := .tuple #[.agg #[.slice none 0 0, .slice none 0 0], .int .i64 12]) (by simp [results, Tryz.results27, go_sem, xr, zr, yr]) rfl ⟨[.slice none 0 0, .slice none 0 0], by rw [HOE.out], by rw [HOE.out]; exact ⟨_, _, rfl, RowM.nil _ _ _ _, RowM.nil _ _ _ _⟩, by have := HBE.out; exact blBy⟩
      | some r =>
        obtain ⟨ra, rc, rfl, ho⟩ := hres
        obtain ⟨oa', oc', w3, HRUN, HS2, HK⟩ := HS.out.push HB2.out (WV.mk (.slice ra r.length rc) r) rfl ho BX.out.lt (by have := HPN.out; omega)
        dsimp only at HRUN
        have HM2 : Hid (mskM l x.t.fs (ps.take (j + 1)) = some ((ws ++ [WV.mk (.slice ra r.length rc) r]).map WV.ws)) := hid (by rw [HTK.out, List.map_append]; exact mskM_snoc p r HWO.out _ _ HM.out)
        have BX3 := hid ((BX.out.kept HB2.out).keep HK.out (Nat.lt_succ_self _))
        have HB3 : Hid (Below w1.heap.size w1 w3) := hid (keep_bel (bl_then hb.out HB2.out) (HK.out.weak (fun b hb => Nat.lt_succ_of_lt hb)))
        clear ho xr zr yr
        go_wp2_with (first | (at_builtin; refine wpList_append_ran rfl _ _ 101 101 rfl rfl _ _ (.slice oa' (n + 1) oc') w3 rfl rfl HRUN.out ?_))
        exact ⟨⟨j + 1, n + 1, oa', oc', _, rfl, by simp, by omega, by omega, HM2, HS2, BX3, HB3⟩, by simp [numAt]; omega⟩
    · have j1 : ¬ (j : Int) < (ps.length : Int) := by omega
      obtain rfl : ws.length = n := HS.out.1
      have HMF : Hid (mskM l x.t.fs ps = some (ws.map WV.ws)) := hid (by have := HM.out; rw [List.take_of_length_le (by omega)] at this; exact this)
      have HOE : Hid (O = (leftM sN sU (d + 1) (ws.map WV.ws) m, 0)) := hid (by rw [HO.out, HMF.out]; rfl)
      have HBW : Hid (Below w.heap.size w wr) := hid (bl_then HB1.out hb.out)
      have HLF := hid (HLC.out wr ws oa oc (own_row HS.out.2.1 (fun _ _ => trivial)) (fun y hy => by
        have hy2 := mskM_wy _ _ HMF.out y.ws (List.mem_map_of_mem hy)
        exact ⟨(HS.out.2.2 y hy).weak (fun _ _ => trivial), wyP_ne hy2, HWN.out _ hy2⟩) (by have := HPN.out; omega) Z [.slice fa m.fs.length fc, .slice ua m.us.length uc] m (HMS.out _ HBW.out) (HLO.out _ (mskM_wy _ _ HMF.out)))
      generalize leftM sN sU (d + 1) (ws.map WV.ws) m = M at *
      have BA2 := hid (BA.out.kept hb.out)
      have xa := BA2.out.cellF
      have za := BA2.out.lt
      have HQ : Hid (w.heap.size + 2 < wr.heap.size) := hid (by have := BR2.out.lt; omega)
      go_wp2_with fail
      refine HLF.out.mono ?_
      rintro e w3 ⟨ds, rfl, hds, hb3⟩
      have BR3 := hid (BR2.out.kept hb3)
      have HCP := hid fun W (hW : Below w3.heap.size w3 W) => copyT (d + 1) W _ ds M (hds.kept hW)
      have HB3 : Hid (Below w.heap.size w w3) := hid (bl_then HBW.out hb3)
      have HZ3 : Hid (wr.heap.size ≤ w3.heap.size) := hid hb3.size
      obtain ⟨fa2, fc2, ua2, uc2, rfl, -⟩ := msg_openD hds
      clear hds hb3 xa za xr zr yr xt zt xx zx
      go_wp2_with fail
      refine (HCP.out _ (Below.refl _ _)).mono ?_
      rintro e w4 ⟨ds2, rfl, hds, hb4⟩
      obtain ⟨fa3, fc3, ua3, uc3, rfl, -⟩ := msg_openD hds
      have BR4 := hid (BR3.out.kept hb4)
      have xr := BR4.out.cellF
      have zr := BR4.out.lt
      have yr := BR4.out.frz
      have HB4 : Hid (Below w.heap.size w w4) := hid (bl_then HB3.out hb4)
      have HFN : Hid (∀ W', Keep (· ≠ w.heap.size + 1 + 1) w4 W' → MsgE W' (w.heap.size ≤ ·) (d + 1) [.slice fa3 M.fs.length fc3, .slice ua3 M.us.length uc3] M) := hid (fun W' hW => MsgE.go hW (fun b hb => by have h1 := HQ.out; have h2 := HZ3.out; have h3 : w3.heap.size ≤ b := hb; show b ≠ _; omega) (fun b hb => by have h2 := HZ3.out; have h1 := HQ.out; have h3 : w3.heap.size ≤ b := hb; show w.heap.size ≤ b; omega) (d + 1) _ _ hds)
      clear hds hb4
      go_wp2
      exact bodyPost_ret (v := .tuple #[.agg #[.slice fa3 M.fs.length fc3, .slice ua3 M.us.length uc3], .int .i64 0]) (by simp [results, Tryz.results27, go_sem, xr, zr, yr]) rfl ⟨[.slice fa3 M.fs.length fc3, .slice ua3 M.us.length uc3], by rw [HOE.out], by rw [HOE.out]; exact HFN.out _ ((Keep.setCell (f := (· ≠ w.heap.size + 1 + 1)) _ _ _ (fun hq => hq rfl)).trans (Keep.setCell _ _ _ (fun hq => hq rfl))), by have := HB4.out; exact blBy⟩
theorem keepC (w : World) (tv kv : Value) (cs : List Value) (pv : Value) (d : Nat) (o : CM × Int) (hM : ∀ W, Below w.heap.size w W → Calls Tryz.prog 27 #[.agg #[tv], kv, .agg cs.toArray, pv, .func (.func 28) #[] #[]] W (MskA (d + 1) W o)) (x0 x1 : Value) (hcs : cs = [x0, x1]) : Calls Tryz.prog 15 #[.agg #[tv], kv, .agg cs.toArray, pv] w (MskA (d + 1) w o) := by
  have HM := hid hM
  subst hcs
  clear hM
  go_enter Tryz.func15, Tryz.ntmps15
  go_wp2_with fail
  refine (HM.out _ (by exact blBy)).mono ?_
  rintro e w1 ⟨ds, rfl, hds, hb1⟩
  obtain ⟨fa, fc, ua, uc, rfl, -⟩ := msg_openD hds
  have BR : Hid (Blk w1 (w.heap.size + 1 + 1) 29 #[.slice none 0 0, .slice none 0 0]) := hid ((Blk.newAt (by simp)).kept hb1)
  have xr := BR.out.cellF
  have zr := BR.out.lt
  have yr := BR.out.frz
  have HB1 : Hid (Below w.heap.size w w1) := hid (bl_then (by exact blBy) hb1)
  have HFN : Hid (∀ W', Keep (· ≠ w.heap.size + 1 + 1) w1 W' → MsgE W' (w.heap.size ≤ ·) (d + 1) [.slice fa o.1.fs.length fc, .slice ua o.1.us.length uc] o.1) := hid (fun W' hW => MsgE.go hW (fun b hb => by have h3 : w.heap.size + 3 ≤ b := (by simpa using hb); show b ≠ _; omega) (fun b hb => by have h3 : w.heap.size + 3 ≤ b := (by simpa using hb); show w.heap.size ≤ b; omega) (d + 1) _ _ hds)
  clear hds hb1
  go_wp2
  exact bodyPost_ret (v := .tuple #[.agg #[.slice fa o.1.fs.length fc, .slice ua o.1.us.length uc], .int .i64 o.2]) (by simp [results, Tryz.results15, go_sem, xr, zr, yr]) rfl ⟨[.slice fa o.1.fs.length fc, .slice ua o.1.us.length uc], rfl, HFN.out _ ((Keep.setCell (f := (· ≠ w.heap.size + 1 + 1)) _ _ _ (fun hq => hq rfl)).trans (Keep.setCell _ _ _ (fun hq => hq rfl))), by have := HB1.out; exact blBy⟩
theorem dropC (w : World) (tv kv : Value) (cs : List Value) (pv : Value) (d : Nat) (o : CM × Int) (hM : ∀ W, Below w.heap.size w W → Calls Tryz.prog 27 #[.agg #[tv], kv, .agg cs.toArray, pv, .func (.func 29) #[] #[]] W (MskA (d + 1) W o)) (x0 x1 : Value) (hcs : cs = [x0, x1]) : Calls Tryz.prog 16 #[.agg #[tv], kv, .agg cs.toArray, pv] w (MskA (d + 1) w o) := by
  have HM := hid hM
  subst hcs
  clear hM
  go_enter Tryz.func16, Tryz.ntmps16
  go_wp2_with fail
  refine (HM.out _ (by exact blBy)).mono ?_
  rintro e w1 ⟨ds, rfl, hds, hb1⟩
  obtain ⟨fa, fc, ua, uc, rfl, -⟩ := msg_openD hds
  have BR : Hid (Blk w1 (w.heap.size + 1 + 1) 29 #[.slice none 0 0, .slice none 0 0]) := hid ((Blk.newAt (by simp)).kept hb1)
  have xr := BR.out.cellF
  have zr := BR.out.lt
  have yr := BR.out.frz
  have HB1 : Hid (Below w.heap.size w w1) := hid (bl_then (by exact blBy) hb1)
  have HFN : Hid (∀ W', Keep (· ≠ w.heap.size + 1 + 1) w1 W' → MsgE W' (w.heap.size ≤ ·) (d + 1) [.slice fa o.1.fs.length fc, .slice ua o.1.us.length uc] o.1) := hid (fun W' hW => MsgE.go hW (fun b hb => by have h3 : w.heap.size + 3 ≤ b := (by simpa using hb); show b ≠ _; omega) (fun b hb => by have h3 : w.heap.size + 3 ≤ b := (by simpa using hb); show w.heap.size ≤ b; omega) (d + 1) _ _ hds)
  clear hds hb1
  go_wp2
  exact bodyPost_ret (v := .tuple #[.agg #[.slice fa o.1.fs.length fc, .slice ua o.1.us.length uc], .int .i64 o.2]) (by simp [results, Tryz.results16, go_sem, xr, zr, yr]) rfl ⟨[.slice fa o.1.fs.length fc, .slice ua o.1.us.length uc], rfl, HFN.out _ ((Keep.setCell (f := (· ≠ w.heap.size + 1 + 1)) _ _ _ (fun hq => hq rfl)).trans (Keep.setCell _ _ _ (fun hq => hq rfl))), by have := HB1.out; exact blBy⟩
end Go.Proofs.YtkifjpaoncjokaaGreatDoor
