/-
  The law's own merged; a number twice, a list twice.
  A number twice, a list twice: they are merged as the document says.
  MergeAlong: the empty message changes nothing, brackets make no difference, what is merged is typed.
  Default: what the program answers.
  The law's own told.
  MergePaths: the law's walk.
  MergeKnown: the examples' calls, one by one.
  MergeKnown's code, from two regions on.
-/
import Derived.Test.YtkifjpaoncjokaaGreatDoorCIR
import Derived.Test.YtkifjpaoncjokaaGreatDoorCGP
import Derived.Test.YtkifjpaoncjokaaGreatDoorCTY
namespace Go.Proofs.YtkifjpaoncjokaaGreatDoor
open Go.RowKit
set_option maxRecDepth 1000000
set_option linter.unusedVariables false
set_option linter.unusedSimpArgs false
set_option maxHeartbeats 4000000
theorem simpleX (w : World) : Calls Tryz.prog 5 #[] w fun e w' => ∃ (h : Nat) (a : Option Addr), e = .returned (.agg #[.slice a (simL h).length 2]) ∧ TbR w' (.slice a (simL h).length 2) (simL h) ∧ Below w.heap.size w w' := (simpleW w).mono fun e w' ⟨h1, h2, h3⟩ => ⟨_, _, h1, h2, h3⟩
/-- A message laid into the block Q. -/
theorem laid2 {w2 : World} {Q n d : Nat} {u v : Value} {c : CM} (hB : Blk w2 Q 29 #[.slice none 0 0, .slice none 0 0]) (hm : MsgE w2 (n ≤ ·) d [u, v] c) (hQ : Q < n) : Blk ((w2.setCell ⟨Q, 0, none⟩ u).setCell ⟨Q, 1, none⟩ v) Q 29 #[u, v] ∧ MsgE ((w2.setCell ⟨Q, 0, none⟩ u).setCell ⟨Q, 1, none⟩ v) AnyZ d [u, v] c :=
  ⟨((hB.set 0 u).set 1 v).is (by simp), MsgE.go (keepR2 Q u v) (fun b (hb : n ≤ b) => by show b ≠ Q; omega) (fun _ _ => trivial) d _ _ hm⟩
theorem mergedLW (w : World) (mx : Int) (hm0 : w.cell? ⟨0, 0, none⟩ = some (.int .i64 mx)) (Z : Nat → Prop) (d : Nat) (cs ds es : List Value) (a b c : CM) (ha : MsgE w Z d cs a) (hb : MsgE w Z d ds b) (hc : MsgE w Z d es c) (ka : ∀ h, keptB (simL h) d (simM h) a = true) (kb : ∀ h, keptB (simL h) d (simM h) b = true) (L1 L2 : Nat) (sa : sizM L1 d a) (sb : sizM L2 d b) (hL : L1 + L2 ≤ 4000000) (hE : ∀ h, mergM (simL h) d (simM h) a b = c) : Calls Tryz.prog 10 #[.agg cs.toArray, .agg ds.toArray, .agg es.toArray] w fun e w' => e = .returned (.bool true) ∧ Below w.heap.size w w' := by
  have HMG : Hid (∀ (W : World) (h : Nat) (t : Option Addr), Below w.heap.size w W → TbR W (.slice t (simL h).length 2) (simL h) → Calls Tryz.prog 20 #[.agg #[.slice t (simL h).length 2], .int .i64 1, .agg cs.toArray, .agg ds.toArray] W fun e w' => ∃ es : List Value, e = .returned (.tuple #[.agg es.toArray, .int .i64 0]) ∧ MsgE w' (W.heap.size ≤ ·) d es c ∧ Below W.heap.size W w') := hid fun W h t hW hT => by
    have := mergeOk W (simL h) t 2 hT (simOk h) mx (cell_below hm0 hW) 1 (by show 1 < 2; decide) (simGood h) rfl Z d cs ds a b (ha.kept hW) (hb.kept hW) (ka h) (kb h) L1 L2 sa sb hL
    rw [show mergM (simL h) d ((simL h)[1]'(by show 1 < 2; decide)) a b = c from hE h] at this
    exact this
  have HEQ := hid fun W (hW : Below w.heap.size w W) ts (hm : MsgE W AnyZ d ts c) => (equalD d W AnyZ Z ts es c c hm (hc.kept hW))
  obtain ⟨fa, fc, ua, uc, rfl, -⟩ := msg_openD ha
  obtain ⟨fb, fd, ub, ud, rfl, -⟩ := msg_openD hb
  obtain ⟨fe, ff, ue, uf, rfl, -⟩ := msg_openD hc
  clear ha hb hc ka kb sa sb hL hE hm0
  go_enter Tryz.func10, Tryz.ntmps10
  go_upto_region 1 with fail
  generalize hw0 : World.alloc (World.alloc (World.alloc w _) _) _ = w0
  have HB0 : Hid (Below w.heap.size w w0) := hid (hw0 ▸ (by exact blBy))
  have BA : Hid (Blk w0 w.heap.size 29 #[.slice fa a.fs.length fc, .slice ua a.us.length uc]) := hid (hw0 ▸ (((Blk.new _ _ _).kept (below_alloc _)).kept (below_alloc _)))
  have BB : Hid (Blk w0 (w.heap.size + 1) 29 #[.slice fb b.fs.length fd, .slice ub b.us.length ud]) := hid (hw0 ▸ ((Blk.newAt (by simp)).kept (below_alloc _)))
  have BC : Hid (Blk w0 (w.heap.size + 1 + 1) 29 #[.slice fe c.fs.length ff, .slice ue c.us.length uf]) := hid (hw0 ▸ (Blk.newAt (by simp)))
  clear hw0
  generalize hq1 : w.heap.size + 1 = q1 at *
  generalize hq2 : q1 + 1 = q2 at *
  clear hq1 hq2
  have HW : Hid (Below w0.heap.size w0 w0) := hid (Below.refl _ _)
  have HSF : Hid (∀ W, Below w0.heap.size w0 W → (fun W => W.cell? ⟨w.heap.size, 0, none⟩ = some (.slice fa a.fs.length fc) ∧ W.cell? ⟨w.heap.size, 1, none⟩ = some (.slice ua a.us.length uc) ∧ W.cell? ⟨q1, 0, none⟩ = some (.slice fb b.fs.length fd) ∧ W.cell? ⟨q1, 1, none⟩ = some (.slice ub b.us.length ud)) W) := hid fun W hW => ⟨(BA.out.kept hW).cell 0 _ rfl, (BA.out.kept hW).cell 1 _ rfl, (BB.out.kept hW).cell 0 _ rfl, (BB.out.kept hW).cell 1 _ rfl⟩
  have hwz : w.heap.size < w0.heap.size ∧ q1 < w0.heap.size := ⟨BA.out.lt, BB.out.lt⟩
  have HSS : Hid (∀ (W : World) (Q : Nat) (u1 u2 : Value), w0.heap.size ≤ Q → Below w0.heap.size w0 W → (fun W => W.cell? ⟨w.heap.size, 0, none⟩ = some (.slice fa a.fs.length fc) ∧ W.cell? ⟨w.heap.size, 1, none⟩ = some (.slice ua a.us.length uc) ∧ W.cell? ⟨q1, 0, none⟩ = some (.slice fb b.fs.length fd) ∧ W.cell? ⟨q1, 1, none⟩ = some (.slice ub b.us.length ud)) ((W.setCell ⟨Q, 0, none⟩ u1).setCell ⟨Q, 1, none⟩ u2)) := hid fun W Q u1 u2 hQ hW => ⟨cs2 (HSF.out W hW).1 (by omega), cs2 (HSF.out W hW).2.1 (by omega), cs2 (HSF.out W hW).2.2.1 (by omega), cs2 (HSF.out W hW).2.2.2 (by omega)⟩
  go_cut [7, 8] from 9 to 22 (fun s7 s8 wc => ∃ (Q : Nat) (va va2 : Option Addr) (vc vc2 : Nat), s7 = .pointer (some ⟨Q, 0, none⟩) ∧ s8 = .int .i64 0 ∧ Hid (Blk wc Q 29 #[.slice va c.fs.length vc, .slice va2 c.us.length vc2]) ∧ Hid (MsgE wc AnyZ d [.slice va c.fs.length vc, .slice va2 c.us.length vc2] c) ∧ Hid (Below w0.heap.size w0 wc))
  case first =>
    go_region_held3 (fun W => W.cell? ⟨w.heap.size, 0, none⟩ = some (.slice fa a.fs.length fc) ∧ W.cell? ⟨w.heap.size, 1, none⟩ = some (.slice ua a.us.length uc) ∧ W.cell? ⟨q1, 0, none⟩ = some (.slice fb b.fs.length fd) ∧ W.cell? ⟨q1, 1, none⟩ = some (.slice ub b.us.length ud)) (first | (with_reducible exact HSS.out _ _ _ _ (by omega) (by have := HW.out; exact blBy)) | exact HSF.out _ (by have := HW.out; exact blBy)) (first | (go_at_call 5; refine (simpleX _).mono ?_; rintro e w1 ⟨h9, a9, rfl, ht, hbx⟩; have HT1 := hid ht; clear ht; (first | (replace BK := hid (BK.out.kept (below_trans (by exact blBy) hbx)); replace xk := BK.out.cellF; replace yk := BK.out.frz; replace zk := BK.out.lt) | (with_reducible have BK := hid ((Blk.new _ 29 #[.slice none 0 0, .slice none 0 0]).kept hbx); have xk := BK.out.cellF; have yk := BK.out.frz; have zk := BK.out.lt) | (with_reducible have BK := hid (((Blk.new _ 29 #[.slice none 0 0, .slice none 0 0]).kept (below_drew1 _)).kept hbx); have xk := BK.out.cellF; have yk := BK.out.frz; have zk := BK.out.lt) | skip); (try have hk9 := BK.out.lt); replace HW := hid (bl_then HW.out (below_trans (by exact blBy) hbx)); have hs9 := HW.out.size; clear hbx) | (go_at_call 20; refine (HMG.out _ h9 a9 (bl_then HB0.out (by have := HW.out; exact blBy)) (HT1.out.kept (by exact blBy))).mono ?_; rintro e w2 ⟨ts, rfl, hm, hbx⟩; obtain ⟨va, vc, va2, vc2, rfl, -⟩ := msg_openD hm; have HM2 := hid hm; clear hm; (first | (replace BK := hid (BK.out.kept (below_trans (by exact blBy) hbx)); replace xk := BK.out.cellF; replace yk := BK.out.frz; replace zk := BK.out.lt) | (with_reducible have BK := hid ((Blk.new _ 29 #[.slice none 0 0, .slice none 0 0]).kept hbx); have xk := BK.out.cellF; have yk := BK.out.frz; have zk := BK.out.lt) | (with_reducible have BK := hid (((Blk.new _ 29 #[.slice none 0 0, .slice none 0 0]).kept (below_drew1 _)).kept hbx); have xk := BK.out.cellF; have yk := BK.out.frz; have zk := BK.out.lt) | skip); replace HW := hid (bl_then HW.out (below_trans (by exact blBy) hbx)); clear hbx))
    all_goals go_wp2_with fail
    all_goals go_meet
    all_goals first
      | (with_reducible exact ⟨_, va, va2, vc, vc2, rfl, rfl, hid (Blk.new _ _ _), hid (MsgE.go (keepT (below_alloc _)) (fun _ _ => trivial) (fun _ _ => trivial) d _ _ HM2.out), hid (by have := HW.out; exact blBy)⟩)
      | exact ⟨_, va, va2, vc, vc2, rfl, rfl, hid (laid2 BK.out HM2.out (by first | exact hk9 | (simp; done) | omega)).1, hid (laid2 BK.out HM2.out (by first | exact hk9 | (simp; done) | omega)).2, hid (by have := HW.out; exact blBy)⟩
  case rest =>
    obtain ⟨Q, va, va2, vc, vc2, rfl, rfl, BQ, HM, HWc⟩ := hcut
    have xq := BQ.out.cellF
    have zq := BQ.out.lt
    have BC1 := hid (BC.out.kept HWc.out)
    have xc := BC1.out.cellF
    have zc := BC1.out.lt
    clear HSF HSS HMG BA BB HW
    go_wp2_with fail
    refine (HEQ.out _ (bl_then HB0.out (by have := HWc.out; exact blBy)) _ (HM.out.kept (by exact blBy))).mono ?_
    rintro e w3 ⟨r, rfl, hr, hbx⟩
    have hr' : r = true := hr.2 (by first | trivial | rfl)
    subst hr'
    have HBF : Hid (Below w.heap.size w w3) := hid (bl_then HB0.out (bl_then HWc.out (below_trans (by exact blBy) hbx)))
    clear hbx xq zq xc zc hr
    go_wp2
    go_ret
    exact ⟨rfl, HBF.out⟩
theorem rowTwo {α : Type} {w : World} {Z : Nat → Prop} {k : Nat} {E : List Value → α → Prop} {vb : Nat} {cs ds : List Value} {x y : α} {t : TypeId} {es : Array Value} (hx : E cs x) (hy : E ds y) (hl : cs.length = k) (hl2 : ds.length = k) (hz : Z vb) (hc : Blk w vb t es) (he : es = (cs ++ ds).toArray) : RowM w Z k E (.slice (some ⟨vb, 0, none⟩) [x, y].length 2) [x, y] := by
  subst he
  refine ⟨[⟨cs, hl⟩, ⟨ds, hl2⟩], ⟨_, _, rfl, by simp [hl, hl2]; omega, by simp, by omega, .inr ⟨vb, 0, rfl, hz, fun j u hu => ?_⟩⟩, rfl, by simp, fun j t x ht hx => ?_⟩
  · rw [Nat.zero_add]
    exact hc.cell j u (by simpa using hu)
  · match j, ht, hx with
    | 0, ht, hx => simp at ht hx; subst ht hx; assumption
    | 1, ht, hx => simp at ht hx; subst ht hx; assumption
    | j + 2, ht, hx => simp at ht
theorem u64s (l : List Int) (h : l.all (fun v => decide (0 ≤ v ∧ v ≤ 9)) = true) : ∀ v ∈ l, U64 v ∧ IntKind.u64.wrap v = v := fun v hv => by
  have := List.all_eq_true.1 h v hv
  rw [decide_eq_true_eq] at this
  refine ⟨by unfold U64; omega, ?_⟩
  obtain ⟨n, rfl⟩ := Int.eq_ofNat_of_zero_le this.1
  have hn : n < 10 := by omega
  match n, hn with
  | 0, _ => rfl
  | 1, _ => rfl
  | 2, _ => rfl
  | 3, _ => rfl
  | 4, _ => rfl
  | 5, _ => rfl
  | 6, _ => rfl
  | 7, _ => rfl
  | 8, _ => rfl
  | 9, _ => rfl
theorem fldAny {d : Nat} {w w' : World} {Z : Nat → Prop} {cs : List Value} {f : CF CM} (h : FmF d w Z cs f) (hb : Below w.heap.size w w') : FmF d w' AnyZ cs f := Fam.go (famF d) h (keepT hb) (fun _ _ => trivial) (fun _ _ => trivial)
def aM : CM := CM.mk [nL 1 [1], nL 2 [1]] []
def bM : CM := CM.mk [nL 1 [0], nL 2 [2]] []
def cM : CM := CM.mk [nL 1 [0], nL 2 [1, 2]] []
theorem keptAM (h : Nat) : keptB (simL h) 1 (simM h) aM = true := by kernel_rfl
theorem keptBM (h : Nat) : keptB (simL h) 1 (simM h) bM = true := by kernel_rfl
theorem mergABC (h : Nat) : mergM (simL h) 1 (simM h) aM bM = cM := by
  have e0 : aM.fs.filter (rivB (simM h).t.fs bM.fs) = [nL 1 [1], nL 2 [1]] := by kernel_rfl
  have e1 : fOrd (nL 1 [1]) (nL 1 [0]) = 0 := by kernel_rfl
  have e2 : fOrd (nL 2 [1]) (nL 2 [2]) = 0 := by kernel_rfl
  have f1 : bothF (simL h) (mergM (simL h) 0) (simM h) (nL 1 [1]) (nL 1 [0]) = nL 1 [0] := by kernel_rfl
  have f2 : bothF (simL h) (mergM (simL h) 0) (simM h) (nL 2 [1]) (nL 2 [2]) = nL 2 [1, 2] := by kernel_rfl
  have e3 : bM.fs = [nL 1 [0], nL 2 [2]] := rfl
  show CM.mk (uni fOrd (bothF (simL h) (mergM (simL h) 0) (simM h)) (aM.fs.filter (rivB (simM h).t.fs bM.fs)) bM.fs) (aM.us ++ bM.us) = cM
  rw [e0, e3, uni_eq e1, uni_eq e2, uni_nil, f1, f2]
  rfl
theorem siz2 (k1 k2 : Int) (v1 v2 : List Int) (h1 : v1.length ≤ 9) (h2 : v2.length ≤ 9) : sizM 9 1 (CM.mk [nL k1 v1, nL k2 v2] []) := by
  refine ⟨by show 2 ≤ 9; omega, by show 0 ≤ 9; omega, fun f hf => ?_⟩
  have hf' : f = nL k1 v1 ∨ f = nL k2 v2 := by
    have h3 : f ∈ [nL k1 v1, nL k2 v2] := hf
    rcases List.mem_cons.1 h3 with h | h
    · exact Or.inl h
    · exact Or.inr (List.mem_singleton.1 h)
  rcases hf' with rfl | rfl
  · exact ⟨by show 0 ≤ 9; omega, by show (v1.map nV).length ≤ 9; rw [List.length_map]; exact h1, fun _ _ => trivial⟩
  · exact ⟨by show 0 ≤ 9; omega, by show (v2.map nV).length ≤ 9; rw [List.length_map]; exact h2, fun _ _ => trivial⟩
theorem awake10 (w : World) (mx : Int) (hm0 : w.cell? ⟨0, 0, none⟩ = some (.int .i64 mx)) : Calls Tryz.prog 9 #[] w fun e w' => e = .returned (.bool true) ∧ Below w.heap.size w w' := by
  have HM := hid hm0
  have i1 : I64 1 := by unfold I64; omega
  have i2 : I64 2 := by unfold I64; omega
  clear hm0
  go_enter Tryz.func9, Tryz.ntmps9
  go_wp2_with fail
  refine (nW10 _ 0 1 i1 [1] (u64s _ rfl) _ _ AnyZ (rowOne (t := 3) (cs := [.int .i64 1]) (x := (1 : Int)) (show FmI _ _ _ _ from rfl) rfl trivial (Blk.new _ _ _))).mono ?_
  rintro e w1 ⟨cs, rfl, hf, hbx⟩
  have HB1 : Hid (Below w.heap.size w w1) := hid (bl_then (by exact blBy) hbx)
  obtain ⟨ka1, kc1, va1, vc1, rfl, -⟩ := fld_open hf
  have HF1 := hid (fldAny hf (Below.refl _ _))
  clear hf hbx
  go_wp2_with fail
  refine (nW10 _ 0 2 i2 [1] (u64s _ rfl) _ _ AnyZ (rowOne (t := 3) (cs := [.int .i64 1]) (x := (1 : Int)) (show FmI _ _ _ _ from rfl) rfl trivial (Blk.new _ _ _))).mono ?_
  rintro e w2 ⟨cs, rfl, hf, hbx⟩
  have HB2 : Hid (Below w.heap.size w w2) := hid (bl_then (by have := HB1.out; exact blBy) hbx)
  replace HF1 := hid ((HF1.out).kept (below_trans (by exact blBy) hbx))
  obtain ⟨ka2, kc2, va2, vc2, rfl, -⟩ := fld_open hf
  have HF2 := hid (fldAny hf (Below.refl _ _))
  clear hf hbx
  go_wp2_with fail
  refine (msgW10 _ _ _ _).mono ?_
  rintro e w3 ⟨rfl, hbx⟩
  have HM1 : Hid (MsgE w3 AnyZ 1 [.slice (some ⟨w2.heap.size, 0, none⟩) 2 2, .slice none 0 0] (CM.mk [nL 1 [1], nL 2 [1]] [])) := hid ⟨_, _, rfl, rowTwo (t := 33) (FldE.kept HF1.out (below_trans (by exact blBy) hbx)) (FldE.kept HF2.out (below_trans (by exact blBy) hbx)) rfl rfl trivial ((Blk.new _ _ _).kept hbx) rfl, RowM.nil _ _ _ _⟩
  have HB3 : Hid (Below w.heap.size w w3) := hid (bl_then (by have := HB2.out; exact blBy) hbx)
  clear HF1 HF2 hbx
  generalize w2.heap.size = p1 at *
  go_wp2_with fail
  refine (nW10 _ 0 1 i1 [0] (u64s _ rfl) _ _ AnyZ (rowOne (t := 3) (cs := [.int .i64 0]) (x := (0 : Int)) (show FmI _ _ _ _ from rfl) rfl trivial (Blk.new _ _ _))).mono ?_
  rintro e w4 ⟨cs, rfl, hf, hbx⟩
  have HB4 : Hid (Below w.heap.size w w4) := hid (bl_then (by have := HB3.out; exact blBy) hbx)
  replace HM1 := hid ((HM1.out).kept (below_trans (by exact blBy) hbx))
  obtain ⟨ka4, kc4, va4, vc4, rfl, -⟩ := fld_open hf
  have HF4 := hid (fldAny hf (Below.refl _ _))
  clear hf hbx
  go_wp2_with fail
  refine (nW10 _ 0 2 i2 [2] (u64s _ rfl) _ _ AnyZ (rowOne (t := 3) (cs := [.int .i64 2]) (x := (2 : Int)) (show FmI _ _ _ _ from rfl) rfl trivial (Blk.new _ _ _))).mono ?_
  rintro e w5 ⟨cs, rfl, hf, hbx⟩
  have HB5 : Hid (Below w.heap.size w w5) := hid (bl_then (by have := HB4.out; exact blBy) hbx)
  replace HM1 := hid ((HM1.out).kept (below_trans (by exact blBy) hbx))
  replace HF4 := hid ((HF4.out).kept (below_trans (by exact blBy) hbx))
  obtain ⟨ka5, kc5, va5, vc5, rfl, -⟩ := fld_open hf
  have HF5 := hid (fldAny hf (Below.refl _ _))
  clear hf hbx
  go_wp2_with fail
  refine (msgW10 _ _ _ _).mono ?_
  rintro e w6 ⟨rfl, hbx⟩
  have HM2 : Hid (MsgE w6 AnyZ 1 [.slice (some ⟨w5.heap.size, 0, none⟩) 2 2, .slice none 0 0] (CM.mk [nL 1 [0], nL 2 [2]] [])) := hid ⟨_, _, rfl, rowTwo (t := 33) (FldE.kept HF4.out (below_trans (by exact blBy) hbx)) (FldE.kept HF5.out (below_trans (by exact blBy) hbx)) rfl rfl trivial ((Blk.new _ _ _).kept hbx) rfl, RowM.nil _ _ _ _⟩
  have HB6 : Hid (Below w.heap.size w w6) := hid (bl_then (by have := HB5.out; exact blBy) hbx)
  replace HM1 := hid ((HM1.out).kept (below_trans (by exact blBy) hbx))
  clear HF4 HF5 hbx
  generalize w5.heap.size = p2 at *
  go_wp2_with fail
  refine (nW10 _ 0 1 i1 [0] (u64s _ rfl) _ _ AnyZ (rowOne (t := 3) (cs := [.int .i64 0]) (x := (0 : Int)) (show FmI _ _ _ _ from rfl) rfl trivial (Blk.new _ _ _))).mono ?_
  rintro e w7 ⟨cs, rfl, hf, hbx⟩
  have HB7 : Hid (Below w.heap.size w w7) := hid (bl_then (by have := HB6.out; exact blBy) hbx)
  replace HM1 := hid ((HM1.out).kept (below_trans (by exact blBy) hbx))
  replace HM2 := hid ((HM2.out).kept (below_trans (by exact blBy) hbx))
  obtain ⟨ka7, kc7, va7, vc7, rfl, -⟩ := fld_open hf
  have HF7 := hid (fldAny hf (Below.refl _ _))
  clear hf hbx
  go_wp2_with fail
  refine (nW10 _ 0 2 i2 [1, 2] (u64s _ rfl) _ _ AnyZ (rowTwo (t := 3) (cs := [.int .i64 1]) (ds := [.int .i64 2]) (x := (1 : Int)) (y := (2 : Int)) (show FmI _ _ _ _ from rfl) (show FmI _ _ _ _ from rfl) rfl rfl trivial (Blk.new _ _ _) rfl)).mono ?_
  rintro e w8 ⟨cs, rfl, hf, hbx⟩
  have HB8 : Hid (Below w.heap.size w w8) := hid (bl_then (by have := HB7.out; exact blBy) hbx)
  replace HM1 := hid ((HM1.out).kept (below_trans (by exact blBy) hbx))
  replace HM2 := hid ((HM2.out).kept (below_trans (by exact blBy) hbx))
  replace HF7 := hid ((HF7.out).kept (below_trans (by exact blBy) hbx))
  obtain ⟨ka8, kc8, va8, vc8, rfl, -⟩ := fld_open hf
  have HF8 := hid (fldAny hf (Below.refl _ _))
  clear hf hbx
  go_wp2_with fail
  refine (msgW10 _ _ _ _).mono ?_
  rintro e w9 ⟨rfl, hbx⟩
  have HM3 : Hid (MsgE w9 AnyZ 1 [.slice (some ⟨w8.heap.size, 0, none⟩) 2 2, .slice none 0 0] (CM.mk [nL 1 [0], nL 2 [1, 2]] [])) := hid ⟨_, _, rfl, rowTwo (t := 33) (FldE.kept HF7.out (below_trans (by exact blBy) hbx)) (FldE.kept HF8.out (below_trans (by exact blBy) hbx)) rfl rfl trivial ((Blk.new _ _ _).kept hbx) rfl, RowM.nil _ _ _ _⟩
  have HB9 : Hid (Below w.heap.size w w9) := hid (bl_then (by have := HB8.out; exact blBy) hbx)
  replace HM1 := hid ((HM1.out).kept (below_trans (by exact blBy) hbx))
  replace HM2 := hid ((HM2.out).kept (below_trans (by exact blBy) hbx))
  clear HF7 HF8 hbx
  generalize w8.heap.size = p3 at *
  go_wp2_with fail
  refine (mergedLW _ mx (cell_below HM.out (by have := HB9.out; exact blBy)) AnyZ 1 _ _ _ aM bM cM (HM1.out.kept (by exact blBy)) (HM2.out.kept (by exact blBy)) (HM3.out.kept (by exact blBy)) keptAM keptBM 9 9 (siz2 1 2 [1] [1] (by decide) (by decide)) (siz2 1 2 [0] [2] (by decide) (by decide)) (by omega) mergABC).mono ?_
  rintro e w10 ⟨rfl, hbx⟩
  have HBF : Hid (Below w.heap.size w w10) := hid (bl_then HB9.out (below_trans (by exact blBy) hbx))
  clear hbx
  go_wp2
  go_ret
  exact ⟨rfl, HBF.out⟩
set_option maxHeartbeats 1000000
theorem nilBy (w : World) (Z : Nat → Prop) : ByE w Z (.slice none 0 0) [] := ⟨rowS_nil _ _ _, by simp, by simp⟩
theorem mk_msg1 (W : World) : (Instr.makeSlice 37 (.int .i64 1) (.int .i64 1)).run Tryz.prog W = .ok (.slice (some ⟨W.heap.size, 0, none⟩) 1 1) (W.alloc (.cells #[.slice none 0 0, .slice none 0 0] 29)) := by
  obtain ⟨i, hi, hz0, hz1, hz2⟩ := info_parts Tryz.infoM
  have := run_makeSlice (P := Tryz.prog) W 37 29 i (.agg #[.slice none 0 0, .slice none 0 0]) Tryz.underlying37 hi hz0 .i64 .i64 1 1 (by omega) (by omega) (by rw [hz1]; decide) (by rw [hz2]; decide) (by omega)
  rw [this]
  have e : madeCells (Value.agg #[.slice none 0 0, .slice none 0 0]).cells ((1 : Int).toNat * i.size) = #[.slice none 0 0, .slice none 0 0] := by
    rw [hz1]
    kernel_rfl
  rw [e]
  rfl
def dfV (l : List TV) (idx n : Int) : CV CM := if (fieldV l idx n).2 = 0 ∧ (fieldV l idx n).1.kind = 17 then ⟨0, [], [CM.mk [] []]⟩ else ⟨0, [], []⟩
theorem defaultT (w : World) (l : List TV) (ta : Option Addr) (tc : Nat) (h : TbR w (.slice ta l.length tc) l) (hk : ∀ x ∈ l, OkV x) (hz : ∀ x ∈ l, ∀ f ∈ x.t.fs, f.name.length ≤ 4000000) (m : Int) (hm : w.cell? ⟨0, 0, none⟩ = some (.int .i64 m)) (idx n : Int) : Calls Tryz.prog 8 #[.agg #[.slice ta l.length tc], .int .i64 idx, .int .i64 n] w fun e w' => ∃ cs : List Value, e = .returned (.tuple #[.agg cs.toArray, .int .i64 (fieldV l idx n).2]) ∧ FmV 1 w' (w.heap.size ≤ ·) cs (dfV l idx n) ∧ Below w.heap.size w w' := by
  have HF := hid fun W (hW : Below w.heap.size w W) => fieldPT W l ta tc (h.kept hW) hk hz m (cell_below hm hW) idx n
  have HD : Hid (dfV l idx n = if (fieldV l idx n).2 = 0 ∧ (fieldV l idx n).1.kind = 17 then ⟨0, [], [CM.mk [] []]⟩ else ⟨0, [], []⟩) := hid rfl
  generalize dfV l idx n = dv at *
  clear h hk hz hm
  generalize fieldV l idx n = fv at *
  obtain ⟨o, e0⟩ := fv
  unfold aFT at HF
  dsimp only at HF HD ⊢
  go_enter Tryz.func8, Tryz.ntmps8
  go_wp2_with fail
  refine (HF.out _ (by exact blBy)).mono ?_
  rintro e w1 ⟨rfl, hbx⟩
  have BR : Hid (Blk w1 (w.heap.size + 1) 39 #[.int .u64 0, .slice none 0 0, .slice none 0 0]) := hid ((Blk.newAt (by simp)).kept hbx)
  have HB1 : Hid (Below w.heap.size w w1) := hid (bl_then (by exact blBy) hbx)
  clear hbx
  go_upto_region 2 with fail
  have B8 : Hid (Blk (w1.alloc (.cells #[.string (strOfNums o.name), .int .i64 o.num, .int .i64 o.kind, .int .i64 o.ref, .int .i64 o.lab, .int .i64 o.one, .int .i64 o.key] 65)) w1.heap.size 65 #[.string (strOfNums o.name), .int .i64 o.num, .int .i64 o.kind, .int .i64 o.ref, .int .i64 o.lab, .int .i64 o.one, .int .i64 o.key]) := hid (Blk.new _ _ _)
  replace BR := hid (BR.out.kept (below_alloc (w := w1) (.cells #[.string (strOfNums o.name), .int .i64 o.num, .int .i64 o.kind, .int .i64 o.ref, .int .i64 o.lab, .int .i64 o.one, .int .i64 o.key] 65)))
  replace HB1 := hid (below_trans HB1.out (below_alloc (w := w1) (.cells #[.string (strOfNums o.name), .int .i64 o.num, .int .i64 o.kind, .int .i64 o.ref, .int .i64 o.lab, .int .i64 o.one, .int .i64 o.key] 65)))
  generalize World.alloc w1 _ = w2 at *
  generalize w1.heap.size = p8 at *
  have x8 := B8.out.cellF
  have z8 := B8.out.lt
  have xr := BR.out.cellF
  have yr := BR.out.frz
  have zr := BR.out.lt
  have HNO : ∀ W : World, FmV 1 W (w.heap.size ≤ ·) [.int .u64 0, .slice none 0 0, .slice none 0 0] (⟨0, [], []⟩ : CV CM) := fun W => ⟨_, _, rfl, nilBy _ _, RowM.nil _ _ _ _, by constructor <;> decide⟩
  by_cases h0 : e0 = 0
  · subst h0
    by_cases h17 : o.kind = 17
    · have k17 : (o.kind != 17) = false := by rw [h17]; rfl
      rw [if_pos ⟨rfl, h17⟩] at HD
      clear h17
      go_wp2
      rw [show Sem.run Tryz.prog (Instr.makeSlice 37 (.int .i64 1) (.int .i64 1)) w2 = _ from mk_msg1 w2]
      have BM : Hid (Blk (w2.alloc (.cells #[.slice none 0 0, .slice none 0 0] 29)) w2.heap.size 29 #[.slice none 0 0, .slice none 0 0]) := hid (Blk.new _ _ _)
      replace BR := hid (BR.out.kept (below_alloc (w := w2) (.cells #[.slice none 0 0, .slice none 0 0] 29)))
      have HB3 := hid (below_trans HB1.out (below_alloc (w := w2) (.cells #[.slice none 0 0, .slice none 0 0] 29)))
      have HP : Hid (w.heap.size + 1 < w2.heap.size ∧ w.heap.size ≤ w2.heap.size) := hid ⟨zr, by omega⟩
      clear x8 z8 xr yr zr
      generalize World.alloc w2 _ = w3 at *
      generalize w2.heap.size = pm at *
      have xr := BR.out.cellF
      have yr := BR.out.frz
      have zr := BR.out.lt
      go_wp2
      refine bodyPost_ret (v := .tuple #[.agg #[.int .u64 0, .slice none 0 0, .slice (some ⟨pm, 0, none⟩) 1 1], .int .i64 0]) (by simp [results, Tryz.results8, go_sem, xr, yr, zr]) rfl ⟨[.int .u64 0, .slice none 0 0, .slice (some ⟨pm, 0, none⟩) 1 1], rfl, ?_, by have := HB3.out; exact blBy⟩
      rw [HD.out]
      refine ⟨_, _, rfl, nilBy _ _, ?_, by constructor <;> decide⟩
      have hp := HP.out
      exact rowOne (k := 2) (x := CM.mk [] []) (cs := [.slice none 0 0, .slice none 0 0]) ⟨_, _, rfl, RowM.nil _ _ _ _, RowM.nil _ _ _ _⟩ rfl hp.2 ((((BM.out.other (by show _ ≠ w.heap.size + 1; omega) _).other (by show _ ≠ w.heap.size + 1; omega) _)).other (by show _ ≠ w.heap.size + 1; omega) _)
    · have k17 : (o.kind != 17) = true := by simp [h17]
      rw [if_neg (fun e => h17 e.2)] at HD
      clear h17
      go_wp2
      exact bodyPost_ret (v := .tuple #[.agg #[.int .u64 0, .slice none 0 0, .slice none 0 0], .int .i64 0]) (by simp [results, Tryz.results8, go_sem, xr, yr, zr]) rfl ⟨[.int .u64 0, .slice none 0 0, .slice none 0 0], rfl, by rw [HD.out]; exact HNO _, by have := HB1.out; exact blBy⟩
  · have k0 : (e0 != 0) = true := by simp [h0]
    rw [if_neg (fun e => h0 e.1)] at HD
    clear h0
    go_wp2
    exact bodyPost_ret (v := .tuple #[.agg #[.int .u64 0, .slice none 0 0, .slice none 0 0], .int .i64 e0]) (by simp [results, Tryz.results8, go_sem, xr, yr, zr]) rfl ⟨[.int .u64 0, .slice none 0 0, .slice none 0 0], rfl, by rw [HD.out]; exact HNO _, by have := HB1.out; exact blBy⟩
theorem toldOk10 (w : World) (Z Z2 : Nat → Prop) (d : Nat) (cs ds : List Value) (c : CM) (h1 : MsgE w Z d cs c) (h2 : MsgE w Z2 d ds c) : Calls Tryz.prog 18 #[.agg cs.toArray, .int .i64 0, .agg ds.toArray, .int .i64 0] w fun e w' => e = .returned (.bool true) ∧ Below w.heap.size w w' := by
  have HE := hid fun W (hW : Below w.heap.size w W) => equalD d W Z Z2 cs ds c c (h1.kept hW) (h2.kept hW)
  obtain ⟨fa, fc, ua, uc, rfl, -⟩ := msg_openD h1
  obtain ⟨fb, fd, ub, ud, rfl, -⟩ := msg_openD h2
  clear h1 h2
  go_enter Tryz.func18, Tryz.ntmps18
  go_wp2_with fail
  refine (HE.out _ (by exact blBy)).mono ?_
  rintro e w1 ⟨r, rfl, hr, hbx⟩
  have hr' : r = true := hr.2 (by first | trivial | rfl)
  subst hr'
  have HB : Hid (Below w.heap.size w w1) := hid (bl_then (by exact blBy) hbx)
  clear hbx hr
  go_wp2
  exact bodyPost_ret (v := .bool true) (by simp [results, Tryz.results18, go_sem]) rfl ⟨rfl, by have := HB.out; exact blBy⟩
theorem pths_row {w : World} {B : Nat} {v : Value} {ps : List (List Int)} (h : w.ownsRow B 9 1 v ps.length (ps.map (fun s => Value.string (strOfNums s)))) : RowS w AnyZ 1 v ps.length (ps.flatMap cSg) := by
  have e : ∀ l : List (List Int), l.flatMap cSg = l.map (fun s => Value.string (strOfNums s)) := fun l => by
    induction l with
    | nil => rfl
    | cons a r ih => rw [List.flatMap_cons, ih]; rfl
  rw [e]
  exact own_row h (fun _ _ => trivial)
theorem anyP {W : World} {Z : Nat → Prop} {d : Nat} {cs : List Value} {y : CM} (hy : MsgE W Z d cs y) : MsgE W AnyZ d cs y := MsgE.go (Keep.refl (fun _ => True) _) (fun _ _ => trivial) (fun _ _ => trivial) d _ _ hy
theorem inW10 (d : Nat) (w : World) (Z : Nat → Prop) (cs : List Value) (m : CM) (n : Int) (h : MsgE w Z d cs m) (hn : I64 n) : Calls Tryz.prog 11 #[.int .i64 n, .agg cs.toArray] w fun e w' => ∃ es : List Value, e = .returned (.agg es.toArray) ∧ FmF d w' AnyZ es (arM n m) ∧ Below w.heap.size w w' := by
  have HM := hid h
  obtain ⟨fa, fc, ua, uc, rfl, -⟩ := msg_openD h
  clear h
  go_enter Tryz.func11, Tryz.ntmps11
  go_wp2
  refine bodyPost_ret (v := .agg #[.int .i64 n, .slice none 0 0, .slice (some ⟨w.heap.size + 1 + 1 + 1, 0, none⟩) 1 1]) (by simp [results, Tryz.results11, go_sem]) rfl ⟨[.int .i64 n, .slice none 0 0, .slice (some ⟨w.heap.size + 1 + 1 + 1, 0, none⟩) 1 1], rfl, ?_, by exact blBy⟩
  refine ⟨_, _, rfl, RowM.nil _ _ _ _, ?_, hn⟩
  refine rowOne (t := 39) (cs := [.int .u64 0, .slice none 0 0, .slice (some ⟨w.heap.size + 1 + 1, 0, none⟩) 1 1]) ?_ rfl trivial (Blk.newAt (by simp))
  refine ⟨_, _, rfl, ⟨rowS_nil _ _ 1, by simp, by simp⟩, rowOne (t := 29) (cs := [.slice fa m.fs.length fc, .slice ua m.us.length uc]) ?_ rfl trivial ((Blk.newAt (by simp)).kept (below_alloc _)), ⟨by simp, by simp⟩⟩
  exact MsgE.go (keepT (by exact blBy)) (fun _ _ => trivial) (fun _ _ => trivial) d _ _ HM.out
/-- The small table. -/
def SmA (w : World) (ta : Option Addr) (n tc : Nat) (mx : Int) : Prop := ∃ h : Nat, n = (simL h).length ∧ TbR w (.slice ta n tc) (simL h) ∧ w.cell? ⟨0, 0, none⟩ = some (.int .i64 mx)
theorem SmA.kept {w w' : World} {ta : Option Addr} {n tc : Nat} {mx : Int} (h : SmA w ta n tc mx) (hb : Below w.heap.size w w') : SmA w' ta n tc mx := by
  obtain ⟨k, e, hT, hc⟩ := h
  exact ⟨k, e, hT.kept hb, cell_below hc hb⟩
theorem simpleS (w : World) (mx : Int) (hm0 : w.cell? ⟨0, 0, none⟩ = some (.int .i64 mx)) : Calls Tryz.prog 5 #[] w fun e w' => ∃ (a : Option Addr) (n : Nat), e = .returned (.agg #[.slice a n 2]) ∧ SmA w' a n 2 mx ∧ Below w.heap.size w w' := (simpleW w).mono fun e w' ⟨h1, h2, h3⟩ => ⟨_, _, h1, ⟨_, rfl, h2, cell_below hm0 h3⟩, h3⟩
theorem simNm (h : Nat) : ∀ x ∈ simL h, ∀ f ∈ x.t.fs, f.name.length ≤ 4000000 := by
  intro x hx f hf
  have hf2 : f ∈ simF := by
    rcases List.mem_cons.1 hx with rfl | hx
    · cases hf
    · rw [List.mem_singleton] at hx
      subst hx
      exact hf
  have : ∀ g ∈ simF, g.name.length ≤ 4000000 := by decide
  exact this f hf2
/-- A message without fields, at a place. -/
def DfA (w : World) (p o : Nat) (xa ya : Option Addr) (xc yc : Nat) : Prop := w.cell? ⟨p, o, none⟩ = some (.slice xa 0 xc) ∧ w.cell? ⟨p, o + 1, none⟩ = some (.slice ya 0 yc) ∧ MsgE w AnyZ 1 [.slice xa 0 xc, .slice ya 0 yc] (CM.mk [] [])
theorem DfA.kept {w w' : World} {p o : Nat} {xa ya : Option Addr} {xc yc : Nat} (h : DfA w p o xa ya xc yc) (hb : Below w.heap.size w w') : DfA w' p o xa ya xc yc := ⟨cell_below h.1 hb, cell_below h.2.1 hb, h.2.2.kept hb⟩
theorem defS3 (w : World) (ta : Option Addr) (n tc : Nat) (mx : Int) (h : SmA w ta n tc mx) : Calls Tryz.prog 8 #[.agg #[.slice ta n tc], .int .i64 1, .int .i64 3] w fun e w' => ∃ (ba : Option Addr) (bc p o mc : Nat) (xa ya : Option Addr) (xc yc : Nat), e = .returned (.tuple #[.agg #[.int .u64 0, .slice ba 0 bc, .slice (some ⟨p, o, none⟩) 1 mc], .int .i64 0]) ∧ DfA w' p o xa ya xc yc ∧ Below w.heap.size w w' := by
  obtain ⟨k, rfl, hT, hc⟩ := h
  refine (defaultT w (simL k) ta tc hT (simOk k) (simNm k) mx hc 1 3).mono ?_
  rintro e w' ⟨cs, rfl, hv, hb⟩
  have e1 : (fieldV (simL k) 1 3).2 = 0 := by kernel_rfl
  have e2 : dfV (simL k) 1 3 = ⟨0, [], [CM.mk [] []]⟩ := by
    have h2 : (fieldV (simL k) 1 3).1.kind = 17 := by kernel_rfl
    unfold dfV
    rw [if_pos ⟨e1, h2⟩]
  rw [e1]
  rw [e2] at hv
  obtain ⟨bv, mv, rfl, h1, h2, h3⟩ := hv
  obtain ⟨ba, bc, rfl, -⟩ := rowS_sl h1.1
  obtain ⟨ma, mc, rfl, -⟩ := h2.sl
  obtain ⟨b, o, ds, e3, hz, hlt, hl, he, hcl⟩ := RowM.at h2 (by decide) (i := 0) (by decide)
  subst e3
  have he2 : MsgE w' AnyZ 1 ds (CM.mk [] []) := MsgE.go (keepT (Below.refl _ _)) (fun _ _ => trivial) (fun _ _ => trivial) 1 _ _ he
  obtain ⟨xa, xc, ya, yc, rfl, -⟩ := msg_openD he2
  exact ⟨ba, bc, b, o, mc, xa, ya, xc, yc, rfl, ⟨(by simpa using hcl 0 _ rfl : w'.cell? ⟨b, o, none⟩ = some (.slice xa (CM.mk [] []).fs.length xc)), (by simpa using hcl 1 _ rfl : w'.cell? ⟨b, o + 1, none⟩ = some (.slice ya (CM.mk [] []).us.length yc)), he2⟩, hb⟩
theorem defS9 (w : World) (ta : Option Addr) (n tc : Nat) (mx : Int) (h : SmA w ta n tc mx) : Calls Tryz.prog 8 #[.agg #[.slice ta n tc], .int .i64 1, .int .i64 9] w fun e w' => ∃ (n0 : Int) (ba ma : Option Addr) (bl bc ml mc : Nat), e = .returned (.tuple #[.agg #[.int .u64 n0, .slice ba bl bc, .slice ma ml mc], .int .i64 20]) ∧ Below w.heap.size w w' := by
  obtain ⟨k, rfl, hT, hc⟩ := h
  refine (defaultT w (simL k) ta tc hT (simOk k) (simNm k) mx hc 1 9).mono ?_
  rintro e w' ⟨cs, rfl, hv, hb⟩
  have e1 : (fieldV (simL k) 1 9).2 = 20 := by kernel_rfl
  rw [e1]
  obtain ⟨bv, mv, rfl, h1, h2, h3⟩ := hv
  obtain ⟨ba, bc, rfl, -⟩ := rowS_sl h1.1
  obtain ⟨ma, mc, rfl, -⟩ := h2.sl
  exact ⟨_, _, _, _, _, _, _, rfl, hb⟩
theorem emptyS {w : World} {xa ya : Option Addr} {xc yc : Nat} (h : MsgE w AnyZ 1 [.slice xa 0 xc, .slice ya 0 yc] (CM.mk [] [])) : Calls Tryz.prog 12 #[.agg #[.slice xa 0 xc, .slice ya 0 yc]] w fun e w' => e = .returned (.bool true) ∧ Below w.heap.size w w' := emptyD10 w AnyZ 1 [.slice xa 0 xc, .slice ya 0 yc] (CM.mk [] []) h
theorem i64s (k : Int) (h : 0 ≤ k ∧ k ≤ 9) : I64 k := by unfold I64; omega
theorem nS (w : World) (d : Nat) (k v : Int) (hk : 0 ≤ k ∧ k ≤ 9) (hv : 0 ≤ v ∧ v ≤ 9) (p : Nat) (hB : Blk w p 3 #[.int .i64 v]) : Calls Tryz.prog 7 #[.int .i64 k, .slice (some ⟨p, 0, none⟩) 1 1] w fun e w' => ∃ (ka va : Option Addr) (kc vc : Nat), e = .returned (.agg #[.int .i64 k, .slice ka 0 kc, .slice va 1 vc]) ∧ FmF d w' AnyZ [.int .i64 k, .slice ka 0 kc, .slice va 1 vc] (nL k [v]) ∧ Below w.heap.size w w' := by
  refine (nW10 w d k (i64s k hk) [v] (u64s [v] (by simp [hv])) _ _ AnyZ (rowOne (t := 3) (cs := [.int .i64 v]) (x := v) (show FmI _ _ _ _ from rfl) rfl trivial hB)).mono ?_
  rintro e w' ⟨cs, rfl, hf, hb⟩
  obtain ⟨ka, kc, va, vc, rfl, -⟩ := fld_open hf
  exact ⟨ka, va, kc, vc, rfl, fldAny hf (Below.refl _ _), hb⟩
theorem nS0 (w : World) (d : Nat) (k : Int) (hk : 0 ≤ k ∧ k ≤ 9) : Calls Tryz.prog 7 #[.int .i64 k, .slice none 0 0] w fun e w' => ∃ (ka va : Option Addr) (kc vc : Nat), e = .returned (.agg #[.int .i64 k, .slice ka 0 kc, .slice va 0 vc]) ∧ FmF d w' AnyZ [.int .i64 k, .slice ka 0 kc, .slice va 0 vc] (nL k []) ∧ Below w.heap.size w w' := by
  refine (nW10 w d k (i64s k hk) [] (by simp) none 0 AnyZ (RowM.nil _ _ _ _)).mono ?_
  rintro e w' ⟨cs, rfl, hf, hb⟩
  obtain ⟨ka, kc, va, vc, rfl, -⟩ := fld_open hf
  exact ⟨ka, va, kc, vc, rfl, fldAny hf (Below.refl _ _), hb⟩
theorem inS (w : World) (d : Nat) (x0 x1 : Value) (m : CM) (h : MsgE w AnyZ d [x0, x1] m) : Calls Tryz.prog 11 #[.int .i64 3, .agg #[x0, x1]] w fun e w' => ∃ (ka va : Option Addr) (kc vc : Nat), e = .returned (.agg #[.int .i64 3, .slice ka 0 kc, .slice va 1 vc]) ∧ FmF d w' AnyZ [.int .i64 3, .slice ka 0 kc, .slice va 1 vc] (arM 3 m) ∧ Below w.heap.size w w' := by
  refine (inW10 d w AnyZ [x0, x1] m 3 h (i64s 3 (by omega))).mono ?_
  rintro e w' ⟨cs, rfl, hf, hb⟩
  obtain ⟨ka, kc, va, vc, rfl, -⟩ := fld_open hf
  exact ⟨ka, va, kc, vc, rfl, hf, hb⟩
theorem msgS1 (w : World) (d : Nat) (x0 x1 x2 : Value) (f : CF CM) (p : Nat) (hf : FmF d w AnyZ [x0, x1, x2] f) (hB : Blk w p 33 #[x0, x1, x2]) : Calls Tryz.prog 6 #[.slice (some ⟨p, 0, none⟩) 1 1] w fun e w' => e = .returned (.agg #[.slice (some ⟨p, 0, none⟩) 1 1, .slice none 0 0]) ∧ MsgE w' AnyZ (d + 1) [.slice (some ⟨p, 0, none⟩) 1 1, .slice none 0 0] (CM.mk [f] []) ∧ Below w.heap.size w w' := by
  refine (msgW10 w _ _ _).mono ?_
  rintro e w' ⟨rfl, hb⟩
  exact ⟨rfl, ⟨_, _, rfl, rowOne (t := 33) (cs := [x0, x1, x2]) (fldAny hf hb) rfl trivial (hB.kept hb), RowM.nil _ _ _ _⟩, hb⟩
theorem msgS2 (w : World) (d : Nat) (x0 x1 x2 y0 y1 y2 : Value) (f g : CF CM) (p : Nat) (hf : FmF d w AnyZ [x0, x1, x2] f) (hg : FmF d w AnyZ [y0, y1, y2] g) (hB : Blk w p 33 #[x0, x1, x2, y0, y1, y2]) : Calls Tryz.prog 6 #[.slice (some ⟨p, 0, none⟩) 2 2] w fun e w' => e = .returned (.agg #[.slice (some ⟨p, 0, none⟩) 2 2, .slice none 0 0]) ∧ MsgE w' AnyZ (d + 1) [.slice (some ⟨p, 0, none⟩) 2 2, .slice none 0 0] (CM.mk [f, g] []) ∧ Below w.heap.size w w' := by
  refine (msgW10 w _ _ _).mono ?_
  rintro e w' ⟨rfl, hb⟩
  exact ⟨rfl, ⟨_, _, rfl, rowTwo (t := 33) (cs := [x0, x1, x2]) (ds := [y0, y1, y2]) (fldAny hf hb) (fldAny hg hb) rfl rfl trivial (hB.kept hb) rfl, RowM.nil _ _ _ _⟩, hb⟩
theorem rowThree {α : Type} {w : World} {Z : Nat → Prop} {k : Nat} {E : List Value → α → Prop} {vb : Nat} {cs ds ts : List Value} {x y z : α} {t : TypeId} {es : Array Value} (hx : E cs x) (hy : E ds y) (hz2 : E ts z) (hl : cs.length = k) (hl2 : ds.length = k) (hl3 : ts.length = k) (hz : Z vb) (hc : Blk w vb t es) (he : es = (cs ++ ds ++ ts).toArray) : RowM w Z k E (.slice (some ⟨vb, 0, none⟩) [x, y, z].length 3) [x, y, z] := by
  subst he
  refine ⟨[⟨cs, hl⟩, ⟨ds, hl2⟩, ⟨ts, hl3⟩], ⟨_, _, rfl, by simp [hl, hl2, hl3]; omega, by simp, by omega, .inr ⟨vb, 0, rfl, hz, fun j u hu => ?_⟩⟩, rfl, by simp, fun j t x ht hx => ?_⟩
  · rw [Nat.zero_add]
    exact hc.cell j u (by simpa using hu)
  · match j, ht, hx with
    | 0, ht, hx => simp at ht hx; subst ht hx; assumption
    | 1, ht, hx => simp at ht hx; subst ht hx; assumption
    | 2, ht, hx => simp at ht hx; subst ht hx; assumption
    | j + 3, ht, hx => simp at ht
theorem msgS3 (w : World) (d : Nat) (x0 x1 x2 y0 y1 y2 z0 z1 z2 : Value) (f g h : CF CM) (p : Nat) (hf : FmF d w AnyZ [x0, x1, x2] f) (hg : FmF d w AnyZ [y0, y1, y2] g) (hh : FmF d w AnyZ [z0, z1, z2] h) (hB : Blk w p 33 #[x0, x1, x2, y0, y1, y2, z0, z1, z2]) : Calls Tryz.prog 6 #[.slice (some ⟨p, 0, none⟩) 3 3] w fun e w' => e = .returned (.agg #[.slice (some ⟨p, 0, none⟩) 3 3, .slice none 0 0]) ∧ MsgE w' AnyZ (d + 1) [.slice (some ⟨p, 0, none⟩) 3 3, .slice none 0 0] (CM.mk [f, g, h] []) ∧ Below w.heap.size w w' := by
  refine (msgW10 w _ _ _).mono ?_
  rintro e w' ⟨rfl, hb⟩
  exact ⟨rfl, ⟨_, _, rfl, rowThree (t := 33) (cs := [x0, x1, x2]) (ds := [y0, y1, y2]) (ts := [z0, z1, z2]) (fldAny hf hb) (fldAny hg hb) (fldAny hh hb) rfl rfl rfl trivial (hB.kept hb) rfl, RowM.nil _ _ _ _⟩, hb⟩
theorem sameS (w : World) (d : Nat) (x0 x1 x2 y0 y1 y2 : Value) (f : CF CM) (hf : FmF d w AnyZ [x0, x1, x2] f) (hg : FmF d w AnyZ [y0, y1, y2] f) : Calls Tryz.prog 14 #[.agg #[x0, x1, x2], .agg #[y0, y1, y2]] w fun e w' => e = .returned (.bool true) ∧ Below w.heap.size w w' := (sameFieldD d (equalD d) w AnyZ AnyZ [x0, x1, x2] [y0, y1, y2] f f hf hg).mono fun e w' hE => by
  obtain ⟨r, rfl, hr, hb⟩ := hE
  rw [hr.2 rfl]
  exact ⟨rfl, hb⟩
theorem toldS (w : World) (d : Nat) (x0 x1 y0 y1 : Value) (c : CM) (h1 : MsgE w AnyZ d [x0, x1] c) (h2 : MsgE w AnyZ d [y0, y1] c) : Calls Tryz.prog 18 #[.agg #[x0, x1], .int .i64 0, .agg #[y0, y1], .int .i64 0] w fun e w' => e = .returned (.bool true) ∧ Below w.heap.size w w' := toldOk10 w AnyZ AnyZ d [x0, x1] [y0, y1] c h1 h2
theorem strRow {w : World} {p : Nat} {s : ByteArray} {q : List Int} (hs : s = strOfNums q) (hB : Blk w p 9 #[.string s]) : RowS w AnyZ 1 (.slice (some ⟨p, 0, none⟩) 1 1) 1 ([q].flatMap cSg) := by
  subst hs
  refine ⟨_, _, rfl, rfl, Nat.le_refl _, by decide, .inr ⟨p, 0, rfl, trivial, fun j u hu => ?_⟩⟩
  rw [Nat.zero_add]
  exact hB.cell j u (by simpa [cSg] using hu)
def oneM : CM := CM.mk [nL 1 [1]] []
def mxP : List Int := [109, 46, 120]
def xyP : List Int := [120, 46, 121]
theorem valS (w : World) (ta : Option Addr) (n tc : Nat) (mx : Int) (h : SmA w ta n tc mx) (Z : Nat → Prop) (d : Nat) (cs : List Value) (m : CM) (hm : MsgE w Z (d + 1) cs m) (ka : ∀ k, keptB (simL k) (d + 1) (simM k) m = true) (p : List Int) (hp : TxA p ∧ PLn p) (s : ByteArray) (hs : s = strOfNums p) (o : CF CM × Int) (ho : ∀ k, valM (simL k) (simM k).t.fs m p = o) : Calls Tryz.prog 13 #[.agg #[.slice ta n tc], .int .i64 1, .agg cs.toArray, .string s] w fun e w' => ∃ (a1 c1 : Option Addr) (b1 d1 : Nat), e = .returned (.tuple #[.agg #[.int .i64 o.1.num, .slice a1 o.1.ks.length b1, .slice c1 o.1.vs.length d1], .int .i64 o.2]) ∧ FmF d w' (w.heap.size ≤ ·) [.int .i64 o.1.num, .slice a1 o.1.ks.length b1, .slice c1 o.1.vs.length d1] o.1 ∧ Below w.heap.size w w' := by
  obtain ⟨k, rfl, hT, hc⟩ := h
  have := valueT w (simL k) ta tc hT (simOk k) mx hc 1 (by show 1 < 2; decide) (simGood k) rfl Z d cs m hm (ka k) p hp.1 hp.2
  subst hs
  rw [show valM (simL k) ((simL k)[1]'(by show 1 < 2; decide)).t.fs m p = o from ho k] at this
  refine this.mono ?_
  rintro e w' ⟨ds, rfl, hf, hb⟩
  obtain ⟨a1, b1, c1, d1, rfl, -⟩ := fld_open hf
  exact ⟨a1, c1, b1, d1, rfl, hf, hb⟩
theorem keepS (w : World) (ta : Option Addr) (n tc : Nat) (mx : Int) (h : SmA w ta n tc mx) (Z : Nat → Prop) (d : Nat) (cs : List Value) (m : CM) (hm : MsgE w Z (d + 1) cs m) (ka : ∀ k, keptB (simL k) (d + 1) (simM k) m = true) (p : List Int) (hp : TxA p ∧ PLn p) (pa : Option Addr) (pc : Nat) (hps : RowS w AnyZ 1 (.slice pa 1 pc) 1 ([p].flatMap cSg)) (o : CM) (ho : ∀ k, mskR true false (d + 1) (mskM (simL k) (simM k).t.fs [p]) m = (o, 0)) : Calls Tryz.prog 15 #[.agg #[.slice ta n tc], .int .i64 1, .agg cs.toArray, .slice pa 1 pc] w fun e w' => ∃ (a1 c1 : Option Addr) (b1 d1 : Nat), e = .returned (.tuple #[.agg #[.slice a1 o.fs.length b1, .slice c1 o.us.length d1], .int .i64 0]) ∧ MsgE w' AnyZ (d + 1) [.slice a1 o.fs.length b1, .slice c1 o.us.length d1] o ∧ Below w.heap.size w w' := by
  obtain ⟨k, rfl, hT, hc⟩ := h
  obtain ⟨u, uc, v, vc, rfl, -⟩ := msg_openD hm
  have := keepC w (.slice ta (simL k).length tc) (.int .i64 1) [.slice u m.fs.length uc, .slice v m.us.length vc] (.slice pa 1 pc) d _ (fun W2 h2 => maskedT _ true false W2 (simL k) ta tc (hT.kept h2) (simOk k) mx (cell_below hc h2) 1 (by show 1 < 2; decide) (simGood k) rfl Z d (keepL (d + 1)) _ m (hm.kept h2) (ka k) [p] pa pc (hps.kept h2) (fun q hq => by rw [List.mem_singleton] at hq; subst hq; exact hp) (by show 1 ≤ 4000000; decide)) _ _ rfl
  rw [show mskR true false (d + 1) (mskM (simL k) ((simL k)[1]'(by show 1 < 2; decide)).t.fs [p]) m = (o, 0) from ho k] at this
  refine this.mono ?_
  rintro e w' ⟨ds, rfl, hf, hb⟩
  obtain ⟨a1, b1, c1, d1, rfl, -⟩ := msg_openD hf
  exact ⟨a1, c1, b1, d1, rfl, anyP hf, hb⟩
theorem dropS (w : World) (ta : Option Addr) (n tc : Nat) (mx : Int) (h : SmA w ta n tc mx) (Z : Nat → Prop) (d : Nat) (cs : List Value) (m : CM) (hm : MsgE w Z (d + 1) cs m) (ka : ∀ k, keptB (simL k) (d + 1) (simM k) m = true) (p : List Int) (hp : TxA p ∧ PLn p) (pa : Option Addr) (pc : Nat) (hps : RowS w AnyZ 1 (.slice pa 1 pc) 1 ([p].flatMap cSg)) (o : CM) (ho : ∀ k, mskR false true (d + 1) (mskM (simL k) (simM k).t.fs [p]) m = (o, 0)) : Calls Tryz.prog 16 #[.agg #[.slice ta n tc], .int .i64 1, .agg cs.toArray, .slice pa 1 pc] w fun e w' => ∃ (a1 c1 : Option Addr) (b1 d1 : Nat), e = .returned (.tuple #[.agg #[.slice a1 o.fs.length b1, .slice c1 o.us.length d1], .int .i64 0]) ∧ MsgE w' AnyZ (d + 1) [.slice a1 o.fs.length b1, .slice c1 o.us.length d1] o ∧ Below w.heap.size w w' := by
  obtain ⟨k, rfl, hT, hc⟩ := h
  obtain ⟨u, uc, v, vc, rfl, -⟩ := msg_openD hm
  have := dropC w (.slice ta (simL k).length tc) (.int .i64 1) [.slice u m.fs.length uc, .slice v m.us.length vc] (.slice pa 1 pc) d _ (fun W2 h2 => maskedT _ false true W2 (simL k) ta tc (hT.kept h2) (simOk k) mx (cell_below hc h2) 1 (by show 1 < 2; decide) (simGood k) rfl Z d (dropL (d + 1)) _ m (hm.kept h2) (ka k) [p] pa pc (hps.kept h2) (fun q hq => by rw [List.mem_singleton] at hq; subst hq; exact hp) (by show 1 ≤ 4000000; decide)) _ _ rfl
  rw [show mskR false true (d + 1) (mskM (simL k) ((simL k)[1]'(by show 1 < 2; decide)).t.fs [p]) m = (o, 0) from ho k] at this
  refine this.mono ?_
  rintro e w' ⟨ds, rfl, hf, hb⟩
  obtain ⟨a1, b1, c1, d1, rfl, -⟩ := msg_openD hf
  exact ⟨a1, c1, b1, d1, rfl, anyP hf, hb⟩
theorem pathS (w : World) (ta : Option Addr) (n tc : Nat) (mx : Int) (h : SmA w ta n tc mx) (Z : Nat → Prop) (d : Nat) (cs : List Value) (m : CM) (hm : MsgE w Z (d + 1) cs m) (ka : ∀ k, keptB (simL k) (d + 1) (simM k) m = true) (hd : (d + 1) * 4000001 ≤ 140737488355328) (ps : List (List Int)) (hp : ps.length ≤ 4000000) (ho : ∀ k, ptM (simL k) (d + 1) (simM k).t.fs [] m = ps) : Calls Tryz.prog 17 #[.agg #[.slice ta n tc], .int .i64 1, .agg cs.toArray] w (PthA w ps 0) := by
  obtain ⟨k, rfl, hT, hc⟩ := h
  have e : ptM (simL k) (d + 1) ((simL k)[1]'(by show 1 < 2; decide)).t.fs [] m = ps := ho k
  have := pathsT w (simL k) ta tc hT (simOk k) (simNm k) mx hc 1 (by show 1 < 2; decide) (simGood k) rfl Z d cs m hm (ka k) hd (by rw [e]; exact hp)
  rw [e] at this
  exact this
def mAM : CM := CM.mk [arM 3 oneM] []
def mBM : CM := CM.mk [arM 3 (CM.mk [nL 2 [1]] [])] []
def mCM : CM := CM.mk [arM 3 (CM.mk [nL 1 [1], nL 2 [1]] [])] []
def m0M : CM := CM.mk [nL 1 [1], arM 3 (CM.mk [nL 1 [2], nL 2 [3]] [])] []
def kpM : CM := CM.mk [arM 3 (CM.mk [nL 1 [2]] [])] []
def drM : CM := CM.mk [nL 1 [1], arM 3 (CM.mk [nL 2 [3]] [])] []
def pM10 : CM := CM.mk [nL 1 [1], nL 2 [], arM 3 (CM.mk [nL 1 [2]] [])] []
theorem kOne (h : Nat) : keptB (simL h) 1 (simM h) oneM = true := by kernel_rfl
theorem kA (h : Nat) : keptB (simL h) 2 (simM h) mAM = true := by kernel_rfl
theorem kB (h : Nat) : keptB (simL h) 2 (simM h) mBM = true := by kernel_rfl
theorem k0 (h : Nat) : keptB (simL h) 2 (simM h) m0M = true := by kernel_rfl
theorem kP (h : Nat) : keptB (simL h) 2 (simM h) pM10 = true := by kernel_rfl
theorem vA (h : Nat) : valM (simL h) (simM h).t.fs mAM mxP = (nL 1 [1], 0) := by kernel_rfl
theorem vO (h : Nat) : valM (simL h) (simM h).t.fs oneM mxP = (cfZ, 20) := by kernel_rfl
theorem vX (h : Nat) : valM (simL h) (simM h).t.fs oneM xyP = (cfZ, 12) := by kernel_rfl
theorem mK (h : Nat) : mskR true false 2 (mskM (simL h) (simM h).t.fs [mxP]) m0M = (kpM, 0) := by kernel_rfl
theorem mD (h : Nat) : mskR false true 2 (mskM (simL h) (simM h).t.fs [mxP]) m0M = (drM, 0) := by kernel_rfl
theorem pP (h : Nat) : ptM (simL h) 2 (simM h).t.fs [] pM10 = [[120], [108], mxP] := by kernel_rfl
theorem mxT : TxA mxP ∧ PLn mxP := ⟨⟨by decide, by decide⟩, PLn.of (by decide)⟩
theorem xyT : TxA xyP ∧ PLn xyP := ⟨⟨by decide, by decide⟩, PLn.of (by decide)⟩
theorem mergC (h : Nat) : mergM (simL h) 2 (simM h) mAM mBM = mCM := by
  have e0 : mAM.fs.filter (rivB (simM h).t.fs mBM.fs) = [arM 3 oneM] := by kernel_rfl
  have e1 : fOrd (arM 3 oneM) (arM 3 (CM.mk [nL 2 [1]] [])) = 0 := by kernel_rfl
  have e3 : mBM.fs = [arM 3 (CM.mk [nL 2 [1]] [])] := rfl
  have g0 : oneM.fs.filter (rivB (simM h).t.fs (CM.mk [nL 2 [1]] []).fs) = [nL 1 [1]] := by kernel_rfl
  have g1 : fOrd (nL 1 [1]) (nL 2 [1]) = -1 := by kernel_rfl
  have f1 : bothF (simL h) (mergM (simL h) 1) (simM h) (arM 3 oneM) (arM 3 (CM.mk [nL 2 [1]] [])) = arM 3 (CM.mk [nL 1 [1], nL 2 [1]] []) := by
    have : bothF (simL h) (mergM (simL h) 1) (simM h) (arM 3 oneM) (arM 3 (CM.mk [nL 2 [1]] [])) = arM 3 (mergM (simL h) 1 (simM h) oneM (CM.mk [nL 2 [1]] [])) := by kernel_rfl
    rw [this]
    show arM 3 (CM.mk (uni fOrd (bothF (simL h) (mergM (simL h) 0) (simM h)) (oneM.fs.filter (rivB (simM h).t.fs (CM.mk [nL 2 [1]] []).fs)) [nL 2 [1]]) (oneM.us ++ [])) = _
    rw [g0, uni_lt (by rw [g1]; decide), uni_nil]
    rfl
  show CM.mk (uni fOrd (bothF (simL h) (mergM (simL h) 1) (simM h)) (mAM.fs.filter (rivB (simM h).t.fs mBM.fs)) mBM.fs) (mAM.us ++ mBM.us) = mCM
  rw [e0, e3, uni_eq e1, uni_nil, f1]
  rfl
theorem fmSet3 {d : Nat} {w : World} {n Q : Nat} {cs : List Value} {x : CF CM} (h : FmF d w (n ≤ ·) cs x) (hQ : Q < n) (a b c : Value) : FmF d (((w.setCell ⟨Q, 0, none⟩ a).setCell ⟨Q, 1, none⟩ b).setCell ⟨Q, 2, none⟩ c) AnyZ cs x := Fam.go (famF d) h (keep3 (f := (· ≠ Q)) (fun h => h rfl)) (fun k (hk : n ≤ k) => by show k ≠ Q; omega) (fun _ _ => trivial)
theorem Blk.set3 {w : World} {p : Nat} {t : TypeId} {x0 x1 x2 a b c : Value} (h : Blk w p t #[x0, x1, x2]) : Blk (((w.setCell ⟨p, 0, none⟩ a).setCell ⟨p, 1, none⟩ b).setCell ⟨p, 2, none⟩ c) p t #[a, b, c] := ((h.set 0 a).set 1 b).set 2 c
theorem valA1 (w : World) (ta : Option Addr) (n : Nat) (mx : Int) (h : SmA w ta n 2 mx) (x0 x1 : Value) (hm : MsgE w AnyZ 2 [x0, x1] mAM) : Calls Tryz.prog 13 #[.agg #[.slice ta n 2], .int .i64 1, .agg #[x0, x1], .string ⟨#[109, 46, 120]⟩] w fun e w' => ∃ (a1 c1 : Option Addr) (b1 d1 : Nat), e = .returned (.tuple #[.agg #[.int .i64 1, .slice a1 0 b1, .slice c1 1 d1], .int .i64 0]) ∧ FmF 1 w' (w.heap.size ≤ ·) [.int .i64 1, .slice a1 0 b1, .slice c1 1 d1] (nL 1 [1]) ∧ Below w.heap.size w w' := valS w ta n 2 mx h AnyZ 1 [x0, x1] mAM hm kA mxP mxT _ (by rfl) (nL 1 [1], 0) vA
theorem valO1 (w : World) (ta : Option Addr) (n : Nat) (mx : Int) (h : SmA w ta n 2 mx) (x0 x1 : Value) (hm : MsgE w AnyZ 1 [x0, x1] oneM) : Calls Tryz.prog 13 #[.agg #[.slice ta n 2], .int .i64 1, .agg #[x0, x1], .string ⟨#[109, 46, 120]⟩] w fun e w' => ∃ (a1 c1 : Option Addr) (b1 d1 : Nat), e = .returned (.tuple #[.agg #[.int .i64 0, .slice a1 0 b1, .slice c1 0 d1], .int .i64 20]) ∧ Below w.heap.size w w' := (valS w ta n 2 mx h AnyZ 0 [x0, x1] oneM hm kOne mxP mxT _ (by rfl) (cfZ, 20) vO).mono fun e w' ⟨a1, c1, b1, d1, h1, _, h3⟩ => ⟨a1, c1, b1, d1, h1, h3⟩
theorem valX1 (w : World) (ta : Option Addr) (n : Nat) (mx : Int) (h : SmA w ta n 2 mx) (x0 x1 : Value) (hm : MsgE w AnyZ 1 [x0, x1] oneM) : Calls Tryz.prog 13 #[.agg #[.slice ta n 2], .int .i64 1, .agg #[x0, x1], .string ⟨#[120, 46, 121]⟩] w fun e w' => ∃ (a1 c1 : Option Addr) (b1 d1 : Nat), e = .returned (.tuple #[.agg #[.int .i64 0, .slice a1 0 b1, .slice c1 0 d1], .int .i64 12]) ∧ Below w.heap.size w w' := (valS w ta n 2 mx h AnyZ 0 [x0, x1] oneM hm kOne xyP xyT _ (by rfl) (cfZ, 12) vX).mono fun e w' ⟨a1, c1, b1, d1, h1, _, h3⟩ => ⟨a1, c1, b1, d1, h1, h3⟩
theorem keepK1 (w : World) (ta : Option Addr) (n : Nat) (mx : Int) (h : SmA w ta n 2 mx) (x0 x1 : Value) (hm : MsgE w AnyZ 2 [x0, x1] m0M) (p : Nat) (hB : Blk w p 9 #[.string ⟨#[109, 46, 120]⟩]) : Calls Tryz.prog 15 #[.agg #[.slice ta n 2], .int .i64 1, .agg #[x0, x1], .slice (some ⟨p, 0, none⟩) 1 1] w fun e w' => ∃ (a1 c1 : Option Addr) (b1 d1 : Nat), e = .returned (.tuple #[.agg #[.slice a1 1 b1, .slice c1 0 d1], .int .i64 0]) ∧ MsgE w' AnyZ 2 [.slice a1 1 b1, .slice c1 0 d1] kpM ∧ Below w.heap.size w w' := keepS w ta n 2 mx h AnyZ 1 [x0, x1] m0M hm k0 mxP mxT (some ⟨p, 0, none⟩) 1 (strRow (by rfl) hB) kpM mK
theorem dropD1 (w : World) (ta : Option Addr) (n : Nat) (mx : Int) (h : SmA w ta n 2 mx) (x0 x1 : Value) (hm : MsgE w AnyZ 2 [x0, x1] m0M) (p : Nat) (hB : Blk w p 9 #[.string ⟨#[109, 46, 120]⟩]) : Calls Tryz.prog 16 #[.agg #[.slice ta n 2], .int .i64 1, .agg #[x0, x1], .slice (some ⟨p, 0, none⟩) 1 1] w fun e w' => ∃ (a1 c1 : Option Addr) (b1 d1 : Nat), e = .returned (.tuple #[.agg #[.slice a1 2 b1, .slice c1 0 d1], .int .i64 0]) ∧ MsgE w' AnyZ 2 [.slice a1 2 b1, .slice c1 0 d1] drM ∧ Below w.heap.size w w' := dropS w ta n 2 mx h AnyZ 1 [x0, x1] m0M hm k0 mxP mxT (some ⟨p, 0, none⟩) 1 (strRow (by rfl) hB) drM mD
/-- Three paths. -/
def PtA (w : World) (b o : Nat) : Prop := w.cell? ⟨b, o, none⟩ = some (.string ⟨#[120]⟩) ∧ w.cell? ⟨b, o + 1, none⟩ = some (.string ⟨#[108]⟩) ∧ w.cell? ⟨b, o + 2, none⟩ = some (.string ⟨#[109, 46, 120]⟩)
theorem PtA.kept {w w' : World} {b o : Nat} (h : PtA w b o) (hb : Below w.heap.size w w') : PtA w' b o := ⟨cell_below h.1 hb, cell_below h.2.1 hb, cell_below h.2.2 hb⟩
theorem pathP1 (w : World) (ta : Option Addr) (n : Nat) (mx : Int) (h : SmA w ta n 2 mx) (x0 x1 : Value) (hm : MsgE w AnyZ 2 [x0, x1] pM10) : Calls Tryz.prog 17 #[.agg #[.slice ta n 2], .int .i64 1, .agg #[x0, x1]] w fun e w' => ∃ (b o c : Nat), e = .returned (.tuple #[.slice (some ⟨b, o, none⟩) 3 c, .int .i64 0]) ∧ PtA w' b o ∧ Below w.heap.size w w' := by
  refine (pathS w ta n 2 mx h AnyZ 1 [x0, x1] pM10 hm kP (by decide) [[120], [108], mxP] (by decide) pP).mono ?_
  rintro e w' ⟨pa, pc, rfl, ho, hb⟩
  have hr := pths_row ho
  obtain ⟨b, o, rfl, h0⟩ := rowAt (g := cSg) (fun _ => rfl) hr (i := 0) (x := [120]) rfl
  obtain ⟨b1, o1, e1, h1⟩ := rowAt (g := cSg) (fun _ => rfl) hr (i := 1) (x := [108]) rfl
  obtain ⟨b2, o2, e2, h2⟩ := rowAt (g := cSg) (fun _ => rfl) hr (i := 2) (x := mxP) rfl
  simp only [Option.some.injEq, Addr.mk.injEq, and_true] at e1 e2
  obtain ⟨rfl, rfl⟩ := e1
  obtain ⟨rfl, rfl⟩ := e2
  have g0 : w'.cell? ⟨b, o, none⟩ = some (.string (strOfNums [120])) := by simpa using h0 0 _ rfl
  have g1 : w'.cell? ⟨b, o + 1, none⟩ = some (.string (strOfNums [108])) := by simpa using h1 0 _ rfl
  have g2 : w'.cell? ⟨b, o + 2, none⟩ = some (.string (strOfNums mxP)) := by simpa using h2 0 _ rfl
  exact ⟨b, o, pc, rfl, ⟨g0, g1, g2⟩, hb⟩
theorem sA10 : sizM 9 2 mAM := by
  refine ⟨by decide, by decide, fun f hf => ?_⟩
  have : f = arM 3 oneM := List.mem_singleton.1 hf
  subst this
  refine ⟨by decide, by decide, fun z hz => ?_⟩
  have : z = oneM := by simpa [allM, arM] using hz
  subst this
  refine ⟨by decide, by decide, fun f hf => ?_⟩
  have : f = nL 1 [1] := List.mem_singleton.1 hf
  subst this
  exact ⟨by decide, by decide, fun _ _ => trivial⟩
theorem sB10 : sizM 9 2 mBM := by
  refine ⟨by decide, by decide, fun f hf => ?_⟩
  have : f = arM 3 (CM.mk [nL 2 [1]] []) := List.mem_singleton.1 hf
  subst this
  refine ⟨by decide, by decide, fun z hz => ?_⟩
  have : z = CM.mk [nL 2 [1]] [] := by simpa [allM, arM] using hz
  subst this
  refine ⟨by decide, by decide, fun f hf => ?_⟩
  have : f = nL 2 [1] := List.mem_singleton.1 hf
  subst this
  exact ⟨by decide, by decide, fun _ _ => trivial⟩
set_option maxHeartbeats 40000000
/-- What stands from a region on. -/
def fromRegion (n : Nat) : Code → Option Code
  | .seq (.region i ops d) c => if i = n then some (.seq (.region i ops d) c) else fromRegion n c
  | .seq _ c => fromRegion n c
  | _ => none
noncomputable def mk8 : Code := (Tryz.f3.body.bind (fromRegion 8)).getD .skip
noncomputable def mk16 : Code := (Tryz.f3.body.bind (fromRegion 16)).getD .skip
end Go.Proofs.YtkifjpaoncjokaaGreatDoor
