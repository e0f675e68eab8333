/-
  MergeParts: where masks are refused.
  MergeParts: where masks are ways.
  MergeParts, whatever comes in.
  What comes in, opened: strings; and what the bound on it says.
  A table that comes in, opened.
  A table that comes in, opened: fields, symbols, ranges, types.
  A message that comes in, opened.
  What comes in: how long its lists are.
-/
import Derived.Test.YtmfaabedfdppcaaGreatDoorCIO
import Derived.Test.YtmfaabedfdppcaaGreatDoorCAD
import Derived.Test.YtmfaabedfdppcaaGreatDoorCAL
import Derived.Test.YtmfaabedfdppcaaGreatDoorCTY
import Derived.ProofKit
import Derived.OpenShut
import Derived.ShutString
import Derived.Lib.SmallJoins
import Derived.Deep.Slices
import Derived.Deep.Fields
import Derived.Test.YtmfaabedfdppcaaGreatDoorCGN
namespace Go.Proofs.YtmfaabedfdppcaaGreatDoor
open Go.RowKit
set_option maxRecDepth 1000000
set_option linter.unusedVariables false
set_option linter.unusedSimpArgs false
set_option maxHeartbeats 1000000
theorem noCells {w : World} {Z : Nat → Prop} {d : Nat} {cs : List Value} (h : MsgE w Z (d + 1) cs (CM.mk [] [])) : ∃ a c a' c', cs = [.slice a 0 c, .slice a' 0 c'] := by
  obtain ⟨a, c, a', c', e, -⟩ := msg_openD h
  exact ⟨a, c, a', c', e⟩
theorem emptyZ {W : World} {Z : Nat → Prop} {d : Nat} {cs : List Value} (h : MsgE W Z (d + 1) cs (CM.mk [] [])) : Calls Tryz.prog 13 #[.agg cs.toArray] W fun e w' => e = .returned (.bool true) ∧ Below W.heap.size W w' := emptyD10 W Z (d + 1) cs (CM.mk [] []) h
theorem parts_bad (w : World) (ta : Option Addr) (ln tc : Nat) (idx : Int) (d : Nat) (m1 m2 pa : Option Addr) (n1 mc1 n2 mc2 pn pc : Nat) (n : Int) (hn : n ≠ 0) (HAW : Hid (∀ W, Below w.heap.size w W → Calls Tryz.prog 10 #[] W fun e w' => e = .returned (.bool true) ∧ Below W.heap.size W w'))
    (HK : Hid (∀ W, Below w.heap.size w W → Calls Tryz.prog 16 #[.agg #[.slice ta ln tc], .int .i64 idx, .agg #[.slice m1 n1 mc1, .slice m2 n2 mc2], .slice pa pn pc] W (MskA (d + 1) W (CM.mk [] [], n))))
    (HD : Hid (∀ W, Below w.heap.size w W → Calls Tryz.prog 17 #[.agg #[.slice ta ln tc], .int .i64 idx, .agg #[.slice m1 n1 mc1, .slice m2 n2 mc2], .slice pa pn pc] W (MskA (d + 1) W (CM.mk [] [], n)))) :
    Calls Tryz.prog 4 #[.agg #[.slice ta ln tc], .int .i64 idx, .agg #[.slice m1 n1 mc1, .slice m2 n2 mc2], .slice pa pn pc] w fun e w' => e = .returned (.bool true) ∧ Below w.heap.size w w' := by
  have kn : (n == 0) = false := by simpa using hn
  have jn : (n != 0) = true := by simpa using hn
  clear hn
  go_enter Tryz.func4, Tryz.ntmps4
  go_wp2_with fail
  refine (HAW.out _ (by exact blBy)).mono ?_
  rintro e w1 ⟨rfl, hb⟩
  have HB : Hid (Below w.heap.size w w1) := hid (bl_then (by exact blBy) hb)
  have Bt : Hid (Blk w1 w.heap.size 24 #[.slice ta ln tc]) := hid (((Blk.new _ _ _).kept (below_alloc _)).kept hb)
  have Bm : Hid (Blk w1 (w.heap.size + 1) 29 #[.slice m1 n1 mc1, .slice m2 n2 mc2]) := hid ((Blk.newAt (by simp)).kept hb)
  clear hb
  generalize w.heap.size + 1 = q1 at *
  have xt := Bt.out.cellF
  have zt := Bt.out.lt
  have xm := Bm.out.cellF
  have zm := Bm.out.lt
  go_wp2_with fail
  refine (HK.out _ (by have := HB.out; exact blBy)).mono ?_
  rintro e w2 ⟨cs1, rfl, has, hb⟩
  obtain ⟨a1, ac1, a2, ac2, rfl⟩ := noCells has
  have HMA := hid has
  clear xt zt xm zm has
  replace Bt := hid (Bt.out.kept (below_trans (by exact blBy) hb))
  replace Bm := hid (Bm.out.kept (below_trans (by exact blBy) hb))
  replace HB := hid (bl_then HB.out (below_trans (by exact blBy) hb))
  clear hb
  have xt := Bt.out.cellF
  have zt := Bt.out.lt
  have xm := Bm.out.cellF
  have zm := Bm.out.lt
  dsimp only
  go_wp2_with fail
  refine (HD.out _ (by have := HB.out; exact blBy)).mono ?_
  rintro e w3 ⟨cs2, rfl, hbs, hb⟩
  obtain ⟨b1, bc1, b2, bc2, rfl⟩ := noCells hbs
  have HMB := hid hbs
  have Ba : Hid (Blk w3 w2.heap.size 29 #[.slice a1 0 ac1, .slice a2 0 ac2]) := hid ((Blk.new _ _ _).kept hb)
  replace HMA := hid (HMA.out.kept (below_trans (by exact blBy) hb))
  replace HB := hid (bl_then HB.out (below_trans (by exact blBy) hb))
  clear xt zt xm zm hbs Bt Bm
  generalize w2.heap.size = qa at *
  clear hb
  have xa := Ba.out.cellF
  have za := Ba.out.lt
  dsimp only
  go_wp2_with fail
  refine (emptyZ (HMA.out.kept (below_alloc _))).mono ?_
  rintro e w4 ⟨rfl, hb⟩
  have Bb : Hid (Blk w4 w3.heap.size 29 #[.slice b1 0 bc1, .slice b2 0 bc2]) := hid ((Blk.new _ _ _).kept hb)
  replace HMB := hid (HMB.out.kept (below_trans (by exact blBy) hb))
  replace HB := hid (bl_then HB.out (below_trans (by exact blBy) hb))
  clear xa za hb
  generalize w3.heap.size = qb at *
  have xb := Bb.out.cellF
  have zb := Bb.out.lt
  go_wp2_with fail
  refine (emptyZ HMB.out).mono ?_
  rintro e w5 ⟨rfl, hb⟩
  replace HB := hid (bl_then HB.out hb)
  clear hb
  go_wp2
  go_ret
  exact ⟨ret_bool (by simp), HB.out⟩
end Go.Proofs.YtmfaabedfdppcaaGreatDoor
namespace Go.Proofs.YtmfaabedfdppcaaGreatDoor
open Go.RowKit
set_option maxRecDepth 1000000
set_option linter.unusedVariables false
set_option linter.unusedSimpArgs false
set_option maxHeartbeats 1000000
theorem anyE {W : World} {Z : Nat → Prop} {d : Nat} {cs : List Value} {y : CM} (hy : MsgE W Z d cs y) : MsgE W AnyZ d cs y := MsgE.go (Keep.refl (fun _ => True) _) (fun _ _ => trivial) (fun _ _ => trivial) d _ _ hy
theorem parts_ok (w : World) (l : List TV) (ta : Option Addr) (ln tc : Nat) (hln : ln = l.length) (h : TbR w (.slice ta l.length tc) l) (k : Nat) (hkl : k < l.length) (d : Nat) (m A B : CM) (m1 m2 pa : Option Addr) (mc1 mc2 pn pc : Nat) (hm : MsgE w AnyZ (d + 1) [.slice m1 m.fs.length mc1, .slice m2 m.us.length mc2] m) (hfl : l[k].t.fs.length ≤ 128)
    (HAW : Hid (∀ W, Below w.heap.size w W → Calls Tryz.prog 10 #[] W fun e w' => e = .returned (.bool true) ∧ Below W.heap.size W w'))
    (HK : Hid (∀ W, Below w.heap.size w W → ∀ cs y, MsgE W AnyZ (d + 1) cs y → (y = m ∨ y = A) → Calls Tryz.prog 16 #[.agg #[.slice ta ln tc], .int .i64 (k : Int), .agg cs.toArray, .slice pa pn pc] W (MskA (d + 1) W (A, 0))))
    (HD : Hid (∀ W, Below w.heap.size w W → ∀ cs, MsgE W AnyZ (d + 1) cs m → Calls Tryz.prog 17 #[.agg #[.slice ta ln tc], .int .i64 (k : Int), .agg cs.toArray, .slice pa pn pc] W (MskA (d + 1) W (B, 0))))
    (HMG : Hid (∀ W, Below w.heap.size w W → ∀ cs ds, MsgE W AnyZ (d + 1) cs B → MsgE W AnyZ (d + 1) ds A → Calls Tryz.prog 20 #[.agg #[.slice ta ln tc], .int .i64 (k : Int), .agg cs.toArray, .agg ds.toArray] W (MskA (d + 1) W (m, 0))))
    (HK3 : Hid (∀ W, Below w.heap.size w W → ∀ cs va vc, MsgE W AnyZ (d + 1) cs m → RowS W AnyZ 1 (.slice va l[k].t.fs.length vc) l[k].t.fs.length ((l[k].t.fs.map FT.name).flatMap cSg) → Calls Tryz.prog 16 #[.agg #[.slice ta ln tc], .int .i64 (k : Int), .agg cs.toArray, .slice va l[k].t.fs.length vc] W (MskA (d + 1) W (CM.mk m.fs [], 0))))
    (HD3 : Hid (∀ W, Below w.heap.size w W → ∀ cs va vc, MsgE W AnyZ (d + 1) cs m → RowS W AnyZ 1 (.slice va l[k].t.fs.length vc) l[k].t.fs.length ((l[k].t.fs.map FT.name).flatMap cSg) → Calls Tryz.prog 17 #[.agg #[.slice ta ln tc], .int .i64 (k : Int), .agg cs.toArray, .slice va l[k].t.fs.length vc] W (MskA (d + 1) W (CM.mk [] m.us, 0)))) :
    Calls Tryz.prog 4 #[.agg #[.slice ta ln tc], .int .i64 (k : Int), .agg #[.slice m1 m.fs.length mc1, .slice m2 m.us.length mc2], .slice pa pn pc] w fun e w' => e = .returned (.bool true) ∧ Below w.heap.size w w' := by
  have HM0 := hid hm
  have HT := hid h
  have HLN := hid hln
  have HEQ := hid fun W (y : CM) cs ds (h1 : MsgE W AnyZ (d + 1) cs y) (h2 : MsgE W AnyZ (d + 1) ds y) => (equalD (d + 1) W AnyZ AnyZ cs ds y y h1 h2).mono (R' := fun e w' => e = .returned (.bool true) ∧ Below W.heap.size W w') (fun e w' hE => by obtain ⟨r, rfl, hr, hb⟩ := hE; rw [hr.2 rfl]; exact ⟨rfl, hb⟩)
  clear hm h hln
  go_enter Tryz.func4, Tryz.ntmps4
  go_wp2_with fail
  refine (HAW.out _ (by exact blBy)).mono ?_
  rintro e w1 ⟨rfl, hb⟩
  have HB : Hid (Below w.heap.size w w1) := hid (bl_then (by exact blBy) hb)
  have Bt : Hid (Blk w1 w.heap.size 24 #[.slice ta ln tc]) := hid (((Blk.new _ _ _).kept (below_alloc _)).kept hb)
  have Bm : Hid (Blk w1 (w.heap.size + 1) 29 #[.slice m1 m.fs.length mc1, .slice m2 m.us.length mc2]) := hid ((Blk.newAt (by simp)).kept hb)
  clear hb
  generalize w.heap.size + 1 = q1 at *
  have xt := Bt.out.cellF
  have zt := Bt.out.lt
  have xm := Bm.out.cellF
  have zm := Bm.out.lt
  go_wp2_with fail
  refine (HK.out _ (by have := HB.out; exact blBy) [.slice m1 m.fs.length mc1, .slice m2 m.us.length mc2] m (HM0.out.kept HB.out) (Or.inl rfl)).mono ?_
  rintro e w2 ⟨cs1, rfl, has, hb⟩
  obtain ⟨a1, ac1, a2, ac2, rfl, -⟩ := msg_openD has
  have HMA := hid (anyE has)
  clear xt zt xm zm has
  replace Bt := hid (Bt.out.kept hb)
  replace Bm := hid (Bm.out.kept hb)
  replace HB := hid (bl_then HB.out hb)
  clear hb
  have xt := Bt.out.cellF
  have zt := Bt.out.lt
  have xm := Bm.out.cellF
  have zm := Bm.out.lt
  dsimp only
  go_wp2_with fail
  refine (HD.out _ (by have := HB.out; exact blBy) [.slice m1 m.fs.length mc1, .slice m2 m.us.length mc2] (HM0.out.kept (by have := HB.out; exact blBy))).mono ?_
  rintro e w3 ⟨cs2, rfl, hbs, hb⟩
  obtain ⟨b1, bc1, b2, bc2, rfl, -⟩ := msg_openD hbs
  have HMB := hid (anyE hbs)
  have Ba : Hid (Blk w3 w2.heap.size 29 #[.slice a1 A.fs.length ac1, .slice a2 A.us.length ac2]) := hid ((Blk.new _ _ _).kept hb)
  replace Bt := hid (Bt.out.kept (below_trans (by exact blBy) hb))
  replace Bm := hid (Bm.out.kept (below_trans (by exact blBy) hb))
  replace HMA := hid (HMA.out.kept (below_trans (by exact blBy) hb))
  replace HB := hid (bl_then HB.out (below_trans (by exact blBy) hb))
  clear xt zt xm zm hbs
  generalize w2.heap.size = qa at *
  clear hb
  have xt := Bt.out.cellF
  have zt := Bt.out.lt
  have xm := Bm.out.cellF
  have zm := Bm.out.lt
  have xa := Ba.out.cellF
  have za := Ba.out.lt
  dsimp only
  go_wp2_with fail
  refine (HMG.out _ (by have := HB.out; exact blBy) [.slice b1 B.fs.length bc1, .slice b2 B.us.length bc2] [.slice a1 A.fs.length ac1, .slice a2 A.us.length ac2] (HMB.out.kept (below_alloc _)) (HMA.out.kept (below_alloc _))).mono ?_
  rintro e w4 ⟨cs3, rfl, hcs, hb⟩
  obtain ⟨c1, cc1, c2, cc2, rfl, -⟩ := msg_openD hcs
  have HMC := hid (anyE hcs)
  replace Bt := hid (Bt.out.kept (below_trans (by exact blBy) hb))
  replace Bm := hid (Bm.out.kept (below_trans (by exact blBy) hb))
  replace Ba := hid (Ba.out.kept (below_trans (by exact blBy) hb))
  replace HMA := hid (HMA.out.kept (below_trans (by exact blBy) hb))
  replace HB := hid (bl_then HB.out (below_trans (by exact blBy) hb))
  clear xt zt xm zm xa za hcs hb HMB
  have xt := Bt.out.cellF
  have zt := Bt.out.lt
  have xm := Bm.out.cellF
  have zm := Bm.out.lt
  have xa := Ba.out.cellF
  have za := Ba.out.lt
  dsimp only
  go_wp2_with fail
  refine (HK.out _ (by have := HB.out; exact blBy) [.slice a1 A.fs.length ac1, .slice a2 A.us.length ac2] A (HMA.out.kept (below_alloc _)) (Or.inr rfl)).mono ?_
  rintro e w5 ⟨cs4, rfl, hds, hb⟩
  obtain ⟨d1, dc1, d2, dc2, rfl, -⟩ := msg_openD hds
  have HMD := hid (anyE hds)
  have Bc : Hid (Blk w5 w4.heap.size 29 #[.slice c1 m.fs.length cc1, .slice c2 m.us.length cc2]) := hid ((Blk.new _ _ _).kept hb)
  replace Bt := hid (Bt.out.kept (below_trans (by exact blBy) hb))
  replace Bm := hid (Bm.out.kept (below_trans (by exact blBy) hb))
  replace Ba := hid (Ba.out.kept (below_trans (by exact blBy) hb))
  replace HMA := hid (HMA.out.kept (below_trans (by exact blBy) hb))
  replace HMC := hid (HMC.out.kept (below_trans (by exact blBy) hb))
  replace HB := hid (bl_then HB.out (below_trans (by exact blBy) hb))
  clear xt zt xm zm xa za hds
  generalize w4.heap.size = qc at *
  clear hb
  have xt := Bt.out.cellF
  have zt := Bt.out.lt
  have xm := Bm.out.cellF
  have zm := Bm.out.lt
  have xa := Ba.out.cellF
  have za := Ba.out.lt
  have xc := Bc.out.cellF
  have zc := Bc.out.lt
  dsimp only
  go_wp2_with fail
  refine (HEQ.out _ m [.slice c1 m.fs.length cc1, .slice c2 m.us.length cc2] [.slice m1 m.fs.length mc1, .slice m2 m.us.length mc2] (HMC.out.kept (below_alloc _)) (HM0.out.kept (by have := HB.out; exact blBy))).mono ?_
  rintro e w6 ⟨rfl, hb⟩
  have Bd : Hid (Blk w6 w5.heap.size 29 #[.slice d1 A.fs.length dc1, .slice d2 A.us.length dc2]) := hid ((Blk.new _ _ _).kept hb)
  replace Bt := hid (Bt.out.kept (below_trans (by exact blBy) hb))
  replace Bm := hid (Bm.out.kept (below_trans (by exact blBy) hb))
  replace Ba := hid (Ba.out.kept (below_trans (by exact blBy) hb))
  replace HMA := hid (HMA.out.kept (below_trans (by exact blBy) hb))
  replace HMD := hid (HMD.out.kept (below_trans (by exact blBy) hb))
  replace HB := hid (bl_then HB.out (below_trans (by exact blBy) hb))
  clear xt zt xm zm xa za xc zc HMC Bc
  generalize w5.heap.size = qd at *
  clear hb
  have xt := Bt.out.cellF
  have zt := Bt.out.lt
  have xm := Bm.out.cellF
  have zm := Bm.out.lt
  have xa := Ba.out.cellF
  have za := Ba.out.lt
  have xd := Bd.out.cellF
  have zd := Bd.out.lt
  dsimp only
  go_wp2_with fail
  refine (HEQ.out _ A [.slice d1 A.fs.length dc1, .slice d2 A.us.length dc2] [.slice a1 A.fs.length ac1, .slice a2 A.us.length ac2] HMD.out HMA.out).mono ?_
  rintro e w7 ⟨rfl, hb⟩
  replace Bt := hid (Bt.out.kept hb)
  replace Bm := hid (Bm.out.kept hb)
  replace HB := hid (bl_then HB.out hb)
  clear xt zt xm zm xa za xd zd HMA HMD Ba Bd hb
  have xt := Bt.out.cellF
  have zt := Bt.out.lt
  dsimp only
  go_wp2_with fail
  have HX : Hid (∀ W, Below w.heap.size w W → ∃ (tb tof : Nat) (fa : Option Addr) (fc : Nat), ta = some ⟨tb, tof, none⟩ ∧ W.cell? ⟨tb, tof + k * 6 + 2, none⟩ = some (.slice fa l[k].t.fs.length fc) ∧ RowS W AnyZ 7 (.slice fa l[k].t.fs.length fc) l[k].t.fs.length (l[k].t.fs.flatMap cFT)) := hid (fun W hW => by
    have hT := HT.out.kept hW
    obtain ⟨tb, tof, e, hc⟩ := rowAt (g := cTV) (fun _ => rfl) hT.row (i := k) (x := l[k]) (by simp [hkl])
    have hf := (hT.ty l[k] (List.getElem_mem hkl)).f
    obtain ⟨fa, fc, ef, -⟩ := rowS_sl hf
    rw [ef] at hf
    refine ⟨tb, tof, fa, fc, e, ?_, hf⟩
    have := hc 2 _ rfl
    rw [ef] at this
    exact this)
  have kl : (k : Int) < (ln : Int) := by have := HLN.out; omega
  generalize hfs : l[k].t.fs = fs at *
  clear hfs
  go_loopw [15, 16] (fun s15 s16 wr => ∃ (j : Nat) (oa : Option Addr) (oc : Nat), s15 = .slice oa j oc ∧ s16 = .int .i64 j ∧ j ≤ fs.length ∧ Hid (((fs.take j).map FT.name).length = j) ∧ Hid (wr.ownsRow w7.heap.size 9 1 (.slice oa j oc) ((fs.take j).map FT.name).length (((fs.take j).map FT.name).flatMap cN)) ∧ Hid (Below w7.heap.size w7 wr)) (fun s15 s16 wr => fs.length - numAt wr s16)
  case atStart => exact ⟨0, none, 0, rfl, rfl, by omega, hid rfl, hid (World.ownsRow_nil _ _ _ _), hid (Below.refl _ _)⟩
  case round =>
    clear xt zt
    obtain ⟨j, oa, oc, rfl, rfl, hj, HL, HO, hb⟩ := hrel
    have xt := (Bt.out.kept hb.out).cellF
    have zt := (Bt.out.kept hb.out).lt
    have HBW : Hid (Below w.heap.size w wr) := hid (bl_then HB.out hb.out)
    obtain ⟨tb, tof, fa, fc, eta, c2, hfr⟩ := HX.out wr HBW.out
    subst eta
    have htb : tb < wr.heap.size := World.block_lt_of_cell? _ _ c2
    have HFR := hid hfr
    clear hfr
    by_cases hlt : j < fs.length
    · have j1 : (j : Int) < (fs.length : Int) := by omega
      obtain ⟨fb, fo, efa, hc⟩ := rowAt (g := cFT) (fun _ => rfl) HFR.out (i := j) (x := fs[j]) (by simp [hlt])
      subst efa
      have f0 := hc 0 _ rfl
      clear hc
      simp only [Nat.add_zero] at f0
      have hfb : fb < wr.heap.size := World.block_lt_of_cell? _ _ f0
      have HTK : Hid ((fs.take (j + 1)).map FT.name = (fs.take j).map FT.name ++ [fs[j].name]) := hid (by rw [List.take_succ_eq_append_getElem hlt, List.map_append]; rfl)
      generalize fs[j] = f at *
      obtain ⟨la, lc, x1, HRUN, HO2, HG⟩ := appendSt w7.heap.size (.slice oa j oc) ((fs.take j).map FT.name) f.name wr HO.out hb.out.size (by rw [HL.out]; omega)
      have HB2 : Hid (Below w7.heap.size w7 x1) := hid (keep_bel hb.out (growKeep HG.out HO.out))
      rw [HL.out] at HRUN HO2
      go_wp2_with (first | (at_builtin; refine wpList_append_ran rfl _ _ 52 52 rfl rfl _ _ (.slice la (j + 1) lc) x1 rfl rfl HRUN.out ?_))
      exact ⟨⟨j + 1, la, lc, rfl, by simp, by omega, hid (by rw [HTK.out, List.length_append, HL.out]; rfl), hid (by rw [HTK.out]; exact HO2.out), HB2⟩, by simp [numAt]; omega⟩
    · have j1 : ¬ (j : Int) < (fs.length : Int) := by omega
      obtain rfl : j = fs.length := by omega
      rw [List.take_length] at HO HL
      have HRW : Hid (RowS wr AnyZ 1 (.slice oa fs.length oc) fs.length ((fs.map FT.name).flatMap cSg)) := hid (by have := own_row HO.out (fun _ _ => trivial) (Z := AnyZ); rw [HL.out] at this; exact this)
      have xm := (Bm.out.kept hb.out).cellF
      have zm := (Bm.out.kept hb.out).lt
      have HXE : Hid (∀ W, Below w.heap.size w W → MsgE W AnyZ (d + 1) [.slice m1 m.fs.length mc1, .slice none 0 0] (CM.mk m.fs [])) := hid (fun W hW => by
        obtain ⟨fv, uv, e, h1, h2⟩ := HM0.out.kept hW
        cases e
        exact ⟨_, _, rfl, h1, RowM.nil _ _ _ _⟩)
      have HYE : Hid (∀ W, Below w.heap.size w W → MsgE W AnyZ (d + 1) [.slice none 0 0, .slice m2 m.us.length mc2] (CM.mk [] m.us)) := hid (fun W hW => by
        obtain ⟨fv, uv, e, h1, h2⟩ := HM0.out.kept hW
        cases e
        exact ⟨_, _, rfl, RowM.nil _ _ _ _, h2⟩)
      generalize CM.mk m.fs [] = X at *
      generalize CM.mk [] m.us = Y at *
      go_wp2_with fail
      refine (HK3.out _ HBW.out [.slice m1 m.fs.length mc1, .slice m2 m.us.length mc2] oa oc (HM0.out.kept HBW.out) HRW.out).mono ?_
      rintro e w8 ⟨cs5, rfl, hxs, hb8⟩
      obtain ⟨x1, xc1, x2, xc2, rfl, -⟩ := msg_openD hxs
      have HMX := hid (anyE hxs)
      have Bt8 := hid ((Bt.out.kept hb.out).kept hb8)
      have Bm8 := hid ((Bm.out.kept hb.out).kept hb8)
      have HB8 : Hid (Below w.heap.size w w8) := hid (bl_then HBW.out hb8)
      have HRW8 := hid (HRW.out.kept hb8)
      clear xt zt xm zm hxs hb8 c2 HFR htb
      have xt := Bt8.out.cellF
      have zt := Bt8.out.lt
      have xm := Bm8.out.cellF
      have zm := Bm8.out.lt
      dsimp only
      go_wp2_with fail
      refine (HD3.out _ (by have := HB8.out; exact blBy) [.slice m1 m.fs.length mc1, .slice m2 m.us.length mc2] oa oc (HM0.out.kept (by have := HB8.out; exact blBy)) (HRW8.out.kept (below_alloc _))).mono ?_
      rintro e w9 ⟨cs6, rfl, hys, hb9⟩
      obtain ⟨y1, yc1, y2, yc2, rfl, -⟩ := msg_openD hys
      have HMY := hid (anyE hys)
      have Bx9 : Hid (Blk w9 w8.heap.size 29 #[.slice x1 X.fs.length xc1, .slice x2 X.us.length xc2]) := hid ((Blk.new _ _ _).kept hb9)
      have Bm9 := hid (Bm8.out.kept (below_trans (below_alloc _) hb9))
      have HMX9 := hid (HMX.out.kept (below_trans (below_alloc _) hb9))
      have HB9 : Hid (Below w.heap.size w w9) := hid (bl_then HB8.out (below_trans (below_alloc _) hb9))
      clear xt zt xm zm hys hb9 HMX
      generalize w8.heap.size = qx at *
      have xm := Bm9.out.cellF
      have zm := Bm9.out.lt
      have xx := Bx9.out.cellF
      have zx := Bx9.out.lt
      dsimp only
      go_wp2_with fail
      refine (HEQ.out _ X [.slice x1 X.fs.length xc1, .slice x2 X.us.length xc2] [.slice m1 m.fs.length mc1, .slice none 0 0] (HMX9.out.kept (below_alloc _)) (HXE.out _ (by have := HB9.out; exact blBy))).mono ?_
      rintro e w10 ⟨rfl, hb10⟩
      have By : Hid (Blk w10 w9.heap.size 29 #[.slice y1 Y.fs.length yc1, .slice y2 Y.us.length yc2]) := hid ((Blk.new _ _ _).kept hb10)
      have Bm10 := hid (Bm9.out.kept (below_trans (below_alloc _) hb10))
      have HMY10 := hid (HMY.out.kept (below_trans (below_alloc _) hb10))
      have HB10 : Hid (Below w.heap.size w w10) := hid (bl_then HB9.out (below_trans (below_alloc _) hb10))
      clear xm zm xx zx hb10 HMY
      generalize w9.heap.size = qy at *
      have xm := Bm10.out.cellF
      have zm := Bm10.out.lt
      have xy := By.out.cellF
      have zy := By.out.lt
      dsimp only
      go_wp2_with fail
      refine (HEQ.out _ Y [.slice y1 Y.fs.length yc1, .slice y2 Y.us.length yc2] [.slice none 0 0, .slice m2 m.us.length mc2] (HMY10.out.kept (by first | exact Below.refl _ _ | exact blBy)) (HYE.out _ (by have := HB10.out; first | exact this | exact blBy))).mono ?_
      rintro e w11 ⟨rfl, hb11⟩
      have HB11 : Hid (Below w.heap.size w w11) := hid (bl_then HB10.out (below_trans (by first | exact Below.refl _ _ | exact blBy) hb11))
      clear xm zm xy zy hb11
      go_wp2
      go_ret
      exact ⟨ret_bool (by simp), HB11.out⟩
end Go.Proofs.YtmfaabedfdppcaaGreatDoor
namespace Go.Proofs.YtmfaabedfdppcaaGreatDoor
open Go.RowKit
set_option maxRecDepth 1000000
set_option linter.unusedVariables false
set_option linter.unusedSimpArgs false
set_option maxHeartbeats 1000000
theorem mergePartsW (w : World) (l : List TV) (ta : Option Addr) (tc : Nat) (h : TbR w (.slice ta l.length tc) l) (hk : ∀ x ∈ l, OkV x) (hnm : ∀ x ∈ l, ∀ f ∈ x.t.fs, f.name.length ≤ 4000000) (mx : Int) (hm0 : w.cell? ⟨0, 0, none⟩ = some (.int .i64 mx)) (idx : Int) (Z : Nat → Prop) (d : Nat) (cs : List Value) (m : CM) (hm : MsgE w Z (d + 1) cs m) (L : Nat) (hL0 : 1 ≤ L) (hL : 2 * L ≤ 4000000) (sm : sizM L (d + 1) m) (ps : List (List Int)) (pa : Option Addr) (pc : Nat) (hps : RowS w AnyZ 1 (.slice pa ps.length pc) ps.length (ps.flatMap cSg)) (hpt : ∀ p ∈ ps, TxA p ∧ p.length ≤ 4000000) (hpn : ps.length ≤ 4000000) : Calls Tryz.prog 4 #[.agg #[.slice ta l.length tc], .int .i64 idx, .agg cs.toArray, .slice pa ps.length pc] w fun e w' => e = .returned (.bool true) ∧ Below w.heap.size w w' := by
  have HAW := hid fun W (hW : Below w.heap.size w W) => awake10 W mx (cell_below hm0 hW)
  obtain ⟨m1, mc1, m2, mc2, rfl, -⟩ := msg_openD hm
  cases q : isB l idx false with
  | false =>
    refine parts_bad w ta l.length tc idx d m1 m2 pa _ mc1 _ mc2 ps.length pc 18 (by decide) HAW (hid fun W hW => ?_) (hid fun W hW => ?_)
    · exact keepC W _ _ [_, _] _ d _ (fun W2 h2 => maskedNo _ W2 l ta tc (h.kept (below_trans hW h2)) hk mx (cell_below hm0 (below_trans hW h2)) idx q d m1 m2 _ mc1 _ mc2 _) _ _ rfl
    · exact dropC W _ _ [_, _] _ d _ (fun W2 h2 => maskedNo _ W2 l ta tc (h.kept (below_trans hW h2)) hk mx (cell_below hm0 (below_trans hW h2)) idx q d m1 m2 _ mc1 _ mc2 _) _ _ rfl
  | true =>
    obtain ⟨k, hkl, rfl, hg, he⟩ := isB_at q
    have hX := List.getElem_mem hkl
    cases qk : keptB l (d + 1) l[k] m with
    | false =>
      refine parts_bad w ta l.length tc k d m1 m2 pa _ mc1 _ mc2 ps.length pc 10 (by decide) HAW (hid fun W hW => ?_) (hid fun W hW => ?_)
      · exact keepC W _ _ [_, _] _ d _ (fun W2 h2 => maskedBad _ W2 l ta tc (h.kept (below_trans hW h2)) hk mx (cell_below hm0 (below_trans hW h2)) k hkl hg he Z d _ m (hm.kept (below_trans hW h2)) qk _) _ _ rfl
      · exact dropC W _ _ [_, _] _ d _ (fun W2 h2 => maskedBad _ W2 l ta tc (h.kept (below_trans hW h2)) hk mx (cell_below hm0 (below_trans hW h2)) k hkl hg he Z d _ m (hm.kept (below_trans hW h2)) qk _) _ _ rfl
    | true =>
      have HKP : ∀ (W : World), Below w.heap.size w W → ∀ (cs : List Value) (y : CM), MsgE W AnyZ (d + 1) cs y → keptB l (d + 1) l[k] y = true → ∀ (ps : List (List Int)) (pa : Option Addr) (pc : Nat), RowS W AnyZ 1 (.slice pa ps.length pc) ps.length (ps.flatMap cSg) → (∀ p ∈ ps, TxA p ∧ p.length ≤ 4000000) → ps.length ≤ 4000000 → Calls Tryz.prog 16 #[.agg #[.slice ta l.length tc], .int .i64 (k : Int), .agg cs.toArray, .slice pa ps.length pc] W (MskA (d + 1) W (mskR true false (d + 1) (mskM l l[k].t.fs ps) y)) := fun W hW cs y hy ky ps pa pc hps hpt hpn => by
        obtain ⟨u, uc, v, vc, rfl, -⟩ := msg_openD hy
        exact keepC W _ _ [_, _] _ d _ (fun W2 h2 => maskedT _ true false W2 l ta tc (h.kept (below_trans hW h2)) hk mx (cell_below hm0 (below_trans hW h2)) k hkl hg he AnyZ d (keepL (d + 1)) _ y (hy.kept h2) ky ps pa pc (hps.kept h2) hpt hpn) _ _ rfl
      have HDP : ∀ (W : World), Below w.heap.size w W → ∀ (cs : List Value) (y : CM), MsgE W AnyZ (d + 1) cs y → keptB l (d + 1) l[k] y = true → ∀ (ps : List (List Int)) (pa : Option Addr) (pc : Nat), RowS W AnyZ 1 (.slice pa ps.length pc) ps.length (ps.flatMap cSg) → (∀ p ∈ ps, TxA p ∧ p.length ≤ 4000000) → ps.length ≤ 4000000 → Calls Tryz.prog 17 #[.agg #[.slice ta l.length tc], .int .i64 (k : Int), .agg cs.toArray, .slice pa ps.length pc] W (MskA (d + 1) W (mskR false true (d + 1) (mskM l l[k].t.fs ps) y)) := fun W hW cs y hy ky ps pa pc hps hpt hpn => by
        obtain ⟨u, uc, v, vc, rfl, -⟩ := msg_openD hy
        exact dropC W _ _ [_, _] _ d _ (fun W2 h2 => maskedT _ false true W2 l ta tc (h.kept (below_trans hW h2)) hk mx (cell_below hm0 (below_trans hW h2)) k hkl hg he AnyZ d (dropL (d + 1)) _ y (hy.kept h2) ky ps pa pc (hps.kept h2) hpt hpn) _ _ rfl
      cases qm : mskM l l[k].t.fs ps with
      | none =>
        refine parts_bad w ta l.length tc k d m1 m2 pa _ mc1 _ mc2 ps.length pc 12 (by decide) HAW (hid fun W hW => ?_) (hid fun W hW => ?_)
        · have := HKP W hW _ m (anyE (hm.kept hW)) qk ps pa pc (hps.kept hW) hpt hpn
          rw [qm] at this
          exact this
        · have := HDP W hW _ m (anyE (hm.kept hW)) qk ps pa pc (hps.kept hW) hpt hpn
          rw [qm] at this
          exact this
      | some ms =>
        have hw := mskM_wy _ _ qm
        have ho : ∀ x ∈ l, ∀ o ∈ x.t.fs, o.lab = 4 → 0 ≤ o.one ∧ o.one < 128 := fun x hx o ho h4 => good_ones hg hx o ho h4
        have kA := left_kept hg true false (d + 1) l[k] m ms hX qk hw
        have kB := left_kept hg false true (d + 1) l[k] m ms hX qk hw
        have lo := lft_ok hg (d + 1) l[k] m ms hX qk hw
        have sA := siz_left hL0 true false (d + 1) ms m lo sm
        have sB := siz_left hL0 false true (d + 1) ms m lo sm
        have eP := left_parts hg ho (d + 1) l[k] m ms hX qk hw
        have en : (l[k].t.fs.map FT.name).length = l[k].t.fs.length := List.length_map ..
        have hnt : ∀ p ∈ l[k].t.fs.map FT.name, TxA p ∧ p.length ≤ 4000000 := fun p hp => by
          obtain ⟨f, hf, rfl⟩ := List.mem_map.1 hp
          exact ⟨(hk _ hX).ok.fs f hf, hnm _ hX f hf⟩
        have hfl := (good_rise hg hX).2
        refine parts_ok w l ta l.length tc rfl h k hkl d m (leftM true false (d + 1) ms m) (leftM false true (d + 1) ms m) m1 m2 pa mc1 mc2 ps.length pc (anyE hm) hfl HAW (hid fun W hW cs y hy e => ?_) (hid fun W hW cs hy => ?_) (hid fun W hW cs ds hy hz => ?_) (hid fun W hW cs va vc hy hr => ?_) (hid fun W hW cs va vc hy hr => ?_)
        · rcases e with rfl | rfl
          · have := HKP W hW cs _ hy qk ps pa pc (hps.kept hW) hpt hpn
            rw [qm] at this
            exact this
          · have := HKP W hW cs _ hy kA ps pa pc (hps.kept hW) hpt hpn
            rw [qm] at this
            unfold mskR at this
            dsimp only at this
            rw [left_idem] at this
            exact this
        · have := HDP W hW cs _ hy qk ps pa pc (hps.kept hW) hpt hpn
          rw [qm] at this
          exact this
        · have := mergeOk W l ta tc (h.kept hW) hk mx (cell_below hm0 hW) k hkl hg he AnyZ (d + 1) cs ds _ _ hy hz kB kA L L sB sA (by omega)
          rw [eP] at this
          exact this
        · have := HKP W hW cs _ hy qk (l[k].t.fs.map FT.name) va vc (by rw [en]; exact hr) hnt (by rw [en]; omega)
          rw [msk_top hg hX, en] at this
          unfold mskR at this
          dsimp only at this
          rw [keep_top d m (top_has qk)] at this
          exact this
        · have := HDP W hW cs _ hy qk (l[k].t.fs.map FT.name) va vc (by rw [en]; exact hr) hnt (by rw [en]; omega)
          rw [msk_top hg hX, en] at this
          unfold mskR at this
          dsimp only at this
          rw [drop_top d m (top_has qk)] at this
          exact this
end Go.Proofs.YtmfaabedfdppcaaGreatDoor
namespace Go.Proofs.YtmfaabedfdppcaaGreatDoor
open Go.ChangeShapes Go.WideShapes Go.ChangeAt Go.RowKit Go.Deep
set_option maxRecDepth 1000000
section
variable {H : Type}
theorem bulk_one (d : DataW H) : 1 ≤ Rows.uptoBulk d := by
  cases d with
  | lit l => cases l <;> simp [Rows.uptoBulk]
  | nil => simp [Rows.uptoBulk]
  | ptr d => simp [Rows.uptoBulk]
  | slice elems spare => simp [Rows.uptoBulk]
  | agg parts => simp [Rows.uptoBulk]
  | iface t d => simp [Rows.uptoBulk]
  | map entries => simp [Rows.uptoBulk]
  | held h => simp [Rows.uptoBulk]
theorem bulk_length (l : List (DataW H)) : l.length ≤ Rows.uptoBulkAll l := by
  induction l with
  | nil => simp [Rows.uptoBulkAll]
  | cons x r ih => have := bulk_one x; simp only [Rows.uptoBulkAll, List.length_cons]; omega
theorem small_le {l : List (DataW H)} (hk : Rows.uptoSmall H l = true) : Rows.uptoBulkAll l ≤ 1048576 := of_decide_eq_true hk
end
/-- The numbers of a string's bytes. -/
def numsS (s : ByteArray) : List Int := s.data.toList.map fun b => (b.toNat : Int)
theorem numsS_str (s : ByteArray) : strOfNums (numsS s) = s := by
  apply ByteArray.ext
  apply Array.ext'
  simp [strOfNums, numsS, Function.comp_def]
theorem numsS_bd (s : ByteArray) : ∀ x ∈ numsS s, 0 ≤ x ∧ x ≤ 255 := by
  intro x hx
  obtain ⟨b, _, rfl⟩ := List.mem_map.1 hx
  have := b.toNat_lt
  omega
theorem numsS_len (s : ByteArray) : (numsS s).length = s.data.toList.length := by simp [numsS]
end Go.Proofs.YtmfaabedfdppcaaGreatDoor
namespace Go.Proofs.YtmfaabedfdppcaaGreatDoor
open Go.ChangeShapes Go.WideShapes Go.ChangeAt Go.RowKit Go.Deep
set_option maxRecDepth 1000000
set_option linter.unusedVariables false
set_option linter.unusedSimpArgs false
set_option maxHeartbeats 1000000
section
variable {H : Type} {enc : TypeId × Value → H} {W : World} {spare : Nat → Bool} {held : Bool}
/-- A struct of fields of one cell each, opened. -/
theorem struct_open {t : TypeId} {fs : Array Field} (ht : Tryz.prog.underlying t = some (.struct fs)) (hone : oneCellFields Tryz.prog fs = true) (hsz : Tryz.prog.cellsOf t = fs.size) {fuel : Nat} {cs : List Value} {y : DataW H × List MemPlace} (h : DataW.trod enc Tryz.prog W 0 spare held fuel t cs = some y) :
    ∃ (xs : List (DataW H × List MemPlace)) (n : Nat), y.1 = .agg (xs.map (·.1)) ∧ xs.length = fs.size ∧ cs.length = fs.size ∧ ∀ (i : Nat) (f : Field), fs[i]? = some f → ∃ v yi, cs[i]? = some v ∧ xs[i]? = some yi ∧ DataW.trod enc Tryz.prog W 0 spare held n f.type [v] = some yi := by
  obtain ⟨xs, n, _, rfl, hl, hlen, hf⟩ := DataW.trod_struct ht h
  refine ⟨xs, n, rfl, hlen, hl.trans hsz, fun i f hi => ?_⟩
  have hlt : i < fs.size := (Array.getElem?_eq_some_iff.1 hi).1
  obtain ⟨o1, o2⟩ := hone_of hone i f hi
  have hc : i < cs.length := by omega
  have hx : i < xs.length := by omega
  refine ⟨cs[i], xs[i], by simp [hc], by simp [hx], ?_⟩
  have := hf i f hi
  have e : (cs.drop i).take 1 = [cs[i]] := by rw [List.drop_eq_getElem_cons hc]; rfl
  rw [o1, o2, e] at this
  rw [this]
  simp [hx]
theorem bulk_mem {l : List (DataW H)} {d : DataW H} (h : d ∈ l) : Rows.uptoBulk d ≤ Rows.uptoBulkAll l := by
  induction l with
  | nil => cases h
  | cons x r ih =>
    simp only [Rows.uptoBulkAll]
    rcases List.mem_cons.1 h with rfl | h
    · omega
    · have := ih h; omega
theorem bulk_get {xs : List (DataW H × List MemPlace)} {i : Nat} {y : DataW H × List MemPlace} (h : xs[i]? = some y) : Rows.uptoBulk y.1 + 1 ≤ Rows.uptoBulk (DataW.agg (xs.map (·.1))) := by
  have := bulk_mem (l := xs.map (·.1)) (d := y.1) (List.mem_map.2 ⟨y, List.mem_of_getElem? h, rfl⟩)
  simp only [Rows.uptoBulk]
  omega
/-- A row of structs, opened. -/
theorem rows_open {α : Type} (g : α → List Value) (K : Nat) (hK0 : 0 < K) (Q : α → DataW H → Prop) {t e : TypeId} (ht : Tryz.prog.underlying t = some (.slice e)) (hK : Tryz.prog.cellsOf e = K) (hg : ∀ x, (g x).length = K)
    (hel : ∀ (n : Nat) (cs : List Value) (y : DataW H × List MemPlace), DataW.trod enc Tryz.prog W 0 spare held n e cs = some y → ∃ x, cs = g x ∧ Q x y.1) {fuel : Nat} {v : Value} {y : DataW H × List MemPlace} (hf : DataW.trod enc Tryz.prog W 0 spare held fuel t [v] = some y) :
    ∃ (a : Option Addr) (cap : Nat) (xs : List α), v = .slice a xs.length cap ∧ RowS W AnyZ K v xs.length (xs.flatMap g) ∧ xs.length + 1 ≤ Rows.uptoBulk y.1 ∧ ∀ x ∈ xs, ∃ d, Q x d ∧ Rows.uptoBulk d ≤ Rows.uptoBulk y.1 := by
  rcases open_slice ht hf with ⟨hcs, rfl⟩ | ⟨a, len, cap, m, n, D, Pl, hcs, _, hl, hm, hmm, rfl, hx⟩
  · simp at hcs
    subst hcs
    exact ⟨none, 0, [], rfl, rowS_nil _ _ _, by simp [Rows.uptoBulk], fun x hx => by cases hx⟩
  · simp at hcs
    subst hcs
    rw [hK] at hx
    have hlm : len ≤ m := by rw [hmm]; split <;> omega
    have hc : ∀ i, i < len → ∃ x : α, W.cells? 0 (a.add (i * K)) K = some (g x) ∧ Q x (D i) := fun i hi => by
      obtain ⟨cs', h1, h2⟩ := hx i (by omega)
      obtain ⟨x, rfl, hq⟩ := hel _ _ _ h2
      exact ⟨x, h1, hq⟩
    obtain ⟨xs, hxl, hxs⟩ : ∃ xs : List α, xs.length = len ∧ ∀ i (h : i < xs.length), W.cells? 0 (a.add (i * K)) K = some (g xs[i]) ∧ Q xs[i] (D i) := by
      clear hx hl hlm hmm hf
      induction len with
      | zero => exact ⟨[], rfl, fun i h => by simp at h⟩
      | succ k ih =>
        obtain ⟨xs, h1, h2⟩ := ih (fun i hi => hc i (by omega))
        obtain ⟨x, h3, h4⟩ := hc k (by omega)
        refine ⟨xs ++ [x], by simp [h1], fun i h => ?_⟩
        by_cases e : i < xs.length
        · rw [List.getElem_append_left e]; exact h2 i e
        · have ei : i = k := by simp at h; omega
          subst ei
          rw [List.getElem_append_right (by omega)]
          simp [h1, h3, h4]
    subst hxl
    have hb : ∀ i, i < xs.length → D i ∈ (List.range xs.length).map D := fun i hi => List.mem_map.2 ⟨i, List.mem_range.2 hi, rfl⟩
    refine ⟨some a, cap, xs, rfl, ⟨some a, cap, rfl, flatM_len hg xs, hl, by unfold maxLen at hm; omega, ?_⟩, ?_, fun x hxm => ?_⟩
    · by_cases h0 : xs.length = 0
      · exact .inl ⟨h0, fun e => by cases e⟩
      · obtain ⟨b, off, spot⟩ := a
        have hspot : spot = none := by
          have h1 := (World.cells?_some (hxs 0 (by omega)).1).2.2 0 hK0
          have h2 : (g xs[0])[0]? = some ((g xs[0])[0]'(by rw [hg]; exact hK0)) := by simp
          rw [h2] at h1
          simpa [Addr.add] using World.cell?_spot h1
        subst hspot
        refine .inr ⟨b, off, rfl, trivial, fun j u hu => ?_⟩
        have hj : j < xs.length * K := by rw [← flatM_len hg xs]; exact (List.getElem?_eq_some_iff.1 hu).1
        have hi : j / K < xs.length := (Nat.div_lt_iff_lt_mul hK0).2 hj
        have hr : j % K < K := Nat.mod_lt _ hK0
        have hjj : j / K * K + j % K = j := by rw [Nat.mul_comm]; exact Nat.div_add_mod j K
        have h2 : (g xs[j / K])[j % K]? = some ((g xs[j / K])[j % K]'(by rw [hg]; exact hr)) := by simp
        have h3 := flatM_get hg xs (j / K) (j % K) xs[j / K] _ (by simp [hi]) h2
        rw [hjj] at h3
        rw [h3] at hu
        have h1 := (World.cells?_some (hxs (j / K) hi).1).2.2 (j % K) hr
        have hadd : ((⟨b, off, none⟩ : Addr).add (j / K * K)).add (j % K) = ⟨b, off + j, none⟩ := by
          have e1 : ∀ (o i : Nat), (⟨b, o, none⟩ : Addr).add i = ⟨b, o + i, none⟩ := fun o i => by unfold Addr.add; split <;> simp_all
          rw [e1, e1, Nat.add_assoc, hjj]
        rw [hadd, h2] at h1
        rw [h1]
        exact hu
    · simp only [Rows.uptoBulk]
      have := bulk_length ((List.range xs.length).map D)
      simp at this
      omega
    · obtain ⟨i, hi, rfl⟩ := List.mem_iff_getElem.1 hxm
      refine ⟨D i, (hxs i hi).2, ?_⟩
      have := bulk_mem (hb i hi)
      simp only [Rows.uptoBulk]
      omega
/-- What a text that was read is. -/
def okX (b : Nat) (x : List Int) : Prop := TxA x ∧ x.length + 1 ≤ b
theorem str_open {n : Nat} {v : Value} {y : DataW H × List MemPlace} (h : DataW.trod enc Tryz.prog W 0 spare held n 9 [v] = some y) : ∃ x : List Int, v = .string (strOfNums x) ∧ okX (Rows.uptoBulk y.1) x := by
  obtain ⟨s, e, rfl, hs⟩ := DataW.trod_string Tryz.underlying9 h
  simp at e
  subst e
  refine ⟨numsS s, by rw [numsS_str], ⟨numsS_bd s, ?_⟩, ?_⟩
  · rw [numsS_len]
    unfold maxLen at hs
    simpa using hs
  · rw [numsS_len]
    simp [Rows.uptoBulk]
theorem int_open {n : Nat} {v : Value} {y : DataW H × List MemPlace} (h : DataW.trod enc Tryz.prog W 0 spare held n 3 [v] = some y) : ∃ x : Int, v = .int .i64 x ∧ I64 x := by
  obtain ⟨x, e, rfl, hs⟩ := DataW.trod_int Tryz.underlying3 h
  simp at e
  subst e
  refine ⟨x, rfl, ?_⟩
  unfold I64
  simp [Lit.wf, IntKind.min, IntKind.max, IntKind.signed, IntKind.bits] at hs
  omega
end
end Go.Proofs.YtmfaabedfdppcaaGreatDoor
namespace Go.Proofs.YtmfaabedfdppcaaGreatDoor
open Go.ChangeShapes Go.WideShapes Go.ChangeAt Go.RowKit Go.Deep
set_option maxRecDepth 1000000
set_option linter.unusedVariables false
set_option linter.unusedSimpArgs false
set_option maxHeartbeats 1000000
theorem fieldsF : ∃ f0 f1 f2 f3 f4 f5 f6, Tryz.prog.underlying 64 = some (.struct #[f0, f1, f2, f3, f4, f5, f6]) ∧ oneCellFields Tryz.prog #[f0, f1, f2, f3, f4, f5, f6] = true ∧ Tryz.prog.cellsOf 64 = 7 ∧ f0.type = 9 ∧ f1.type = 3 ∧ f2.type = 3 ∧ f3.type = 3 ∧ f4.type = 3 ∧ f5.type = 3 ∧ f6.type = 3 :=
  ⟨_, _, _, _, _, _, _, Tryz.underlying64, by kernel_rfl, by kernel_rfl, by kernel_rfl, by kernel_rfl, by kernel_rfl, by kernel_rfl, by kernel_rfl, by kernel_rfl, by kernel_rfl⟩
theorem fieldsS : ∃ f0 f1, Tryz.prog.underlying 68 = some (.struct #[f0, f1]) ∧ oneCellFields Tryz.prog #[f0, f1] = true ∧ Tryz.prog.cellsOf 68 = 2 ∧ f0.type = 9 ∧ f1.type = 3 :=
  ⟨_, _, Tryz.underlying68, by kernel_rfl, by kernel_rfl, by kernel_rfl, by kernel_rfl⟩
theorem fieldsR : ∃ f0 f1, Tryz.prog.underlying 227 = some (.struct #[f0, f1]) ∧ oneCellFields Tryz.prog #[f0, f1] = true ∧ Tryz.prog.cellsOf 227 = 2 ∧ f0.type = 3 ∧ f1.type = 3 :=
  ⟨_, _, Tryz.underlying227, by kernel_rfl, by kernel_rfl, by kernel_rfl, by kernel_rfl⟩
theorem fieldsT : ∃ f0 f1 f2 f3 f4 f5, Tryz.prog.underlying 62 = some (.struct #[f0, f1, f2, f3, f4, f5]) ∧ oneCellFields Tryz.prog #[f0, f1, f2, f3, f4, f5] = true ∧ Tryz.prog.cellsOf 62 = 6 ∧ f0.type = 9 ∧ f1.type = 4 ∧ f2.type = 58 ∧ f3.type = 52 ∧ f4.type = 59 ∧ f5.type = 60 :=
  ⟨_, _, _, _, _, _, Tryz.underlying62, by kernel_rfl, by kernel_rfl, by kernel_rfl, by kernel_rfl, by kernel_rfl, by kernel_rfl, by kernel_rfl, by kernel_rfl⟩
theorem list_eq {cs : List Value} : ∀ (l : List Value), cs.length = l.length → (∀ (i : Nat) (v : Value), l[i]? = some v → cs[i]? = some v) → cs = l := fun l hl h => by
  apply List.ext_getElem? 
  intro i
  by_cases hi : i < l.length
  · rw [h i l[i] (by simp [hi])]; simp [hi]
  · rw [List.getElem?_eq_none (by omega), List.getElem?_eq_none (by omega)]
section
variable {H : Type} {enc : TypeId × Value → H} {W : World} {spare : Nat → Bool} {held : Bool}
theorem ft_open (n : Nat) (cs : List Value) (y : DataW H × List MemPlace) (h : DataW.trod enc Tryz.prog W 0 spare held n 64 cs = some y) : ∃ x : FT, cs = cFT x ∧ okX (Rows.uptoBulk y.1) x.name := by
  obtain ⟨f0, f1, f2, f3, f4, f5, f6, hs, hone, hsz, t0, t1, t2, t3, t4, t5, t6⟩ := fieldsF
  obtain ⟨xs, m, hy, hxl, hcl, hi⟩ := struct_open hs hone hsz h
  obtain ⟨v0, y0, c0, x0, h0⟩ := hi 0 f0 rfl
  rw [t0] at h0
  obtain ⟨v1, y1, c1, x1, h1⟩ := hi 1 f1 rfl
  rw [t1] at h1
  obtain ⟨v2, y2, c2, x2, h2⟩ := hi 2 f2 rfl
  rw [t2] at h2
  obtain ⟨v3, y3, c3, x3, h3⟩ := hi 3 f3 rfl
  rw [t3] at h3
  obtain ⟨v4, y4, c4, x4, h4⟩ := hi 4 f4 rfl
  rw [t4] at h4
  obtain ⟨v5, y5, c5, x5, h5⟩ := hi 5 f5 rfl
  rw [t5] at h5
  obtain ⟨v6, y6, c6, x6, h6⟩ := hi 6 f6 rfl
  rw [t6] at h6
  obtain ⟨a0, rfl, k0⟩ := str_open h0
  obtain ⟨a1, rfl, k1⟩ := int_open h1
  obtain ⟨a2, rfl, k2⟩ := int_open h2
  obtain ⟨a3, rfl, k3⟩ := int_open h3
  obtain ⟨a4, rfl, k4⟩ := int_open h4
  obtain ⟨a5, rfl, k5⟩ := int_open h5
  obtain ⟨a6, rfl, k6⟩ := int_open h6
  refine ⟨⟨a0, a1, a2, a3, a4, a5, a6⟩, list_eq _ (by rw [hcl]; rfl) fun i v hv => ?_, k0.1, ?_⟩
  · match i, hv with
    | 0, hv => simp [cFT] at hv; subst hv; exact c0
    | 1, hv => simp [cFT] at hv; subst hv; exact c1
    | 2, hv => simp [cFT] at hv; subst hv; exact c2
    | 3, hv => simp [cFT] at hv; subst hv; exact c3
    | 4, hv => simp [cFT] at hv; subst hv; exact c4
    | 5, hv => simp [cFT] at hv; subst hv; exact c5
    | 6, hv => simp [cFT] at hv; subst hv; exact c6
    | i + 7, hv => simp [cFT] at hv
  · have := bulk_get x0
    rw [hy]
    have := k0.2
    dsimp only
    omega
theorem sy_open (n : Nat) (cs : List Value) (y : DataW H × List MemPlace) (h : DataW.trod enc Tryz.prog W 0 spare held n 68 cs = some y) : ∃ x : SY, cs = cSY x ∧ (okX (Rows.uptoBulk y.1) x.name ∧ I64 x.num) := by
  obtain ⟨f0, f1, hs, hone, hsz, t0, t1⟩ := fieldsS
  obtain ⟨xs, m, hy, hxl, hcl, hi⟩ := struct_open hs hone hsz h
  obtain ⟨v0, y0, c0, x0, h0⟩ := hi 0 f0 rfl
  rw [t0] at h0
  obtain ⟨v1, y1, c1, x1, h1⟩ := hi 1 f1 rfl
  rw [t1] at h1
  obtain ⟨a0, rfl, k0⟩ := str_open h0
  obtain ⟨a1, rfl, k1⟩ := int_open h1
  refine ⟨⟨a0, a1⟩, list_eq _ (by rw [hcl]; rfl) fun i v hv => ?_, ⟨k0.1, ?_⟩, k1⟩
  · match i, hv with
    | 0, hv => simp [cSY] at hv; subst hv; exact c0
    | 1, hv => simp [cSY] at hv; subst hv; exact c1
    | i + 2, hv => simp [cSY] at hv
  · have := bulk_get x0
    rw [hy]
    have := k0.2
    dsimp only
    omega
theorem rg_open (n : Nat) (cs : List Value) (y : DataW H × List MemPlace) (h : DataW.trod enc Tryz.prog W 0 spare held n 227 cs = some y) : ∃ x : RG, cs = cRG x ∧ True := by
  obtain ⟨f0, f1, hs, hone, hsz, t0, t1⟩ := fieldsR
  obtain ⟨xs, m, hy, hxl, hcl, hi⟩ := struct_open hs hone hsz h
  obtain ⟨v0, y0, c0, x0, h0⟩ := hi 0 f0 rfl
  rw [t0] at h0
  obtain ⟨v1, y1, c1, x1, h1⟩ := hi 1 f1 rfl
  rw [t1] at h1
  obtain ⟨a0, rfl, k0⟩ := int_open h0
  obtain ⟨a1, rfl, k1⟩ := int_open h1
  refine ⟨⟨a0, a1⟩, list_eq _ (by rw [hcl]; rfl) fun i v hv => ?_, trivial⟩
  match i, hv with
  | 0, hv => simp [cRG] at hv; subst hv; exact c0
  | 1, hv => simp [cRG] at hv; subst hv; exact c1
  | i + 2, hv => simp [cRG] at hv
theorem st_open (n : Nat) (cs : List Value) (y : DataW H × List MemPlace) (h : DataW.trod enc Tryz.prog W 0 spare held n 9 cs = some y) : ∃ x : List Int, cs = cN x ∧ okX (Rows.uptoBulk y.1) x := by
  obtain ⟨s, e, _⟩ := DataW.trod_string Tryz.underlying9 h
  subst e
  obtain ⟨x, e, k⟩ := str_open h
  exact ⟨x, by rw [e]; rfl, k⟩
theorem fieldsB : ∃ f0, Tryz.prog.underlying 24 = some (.struct #[f0]) ∧ oneCellFields Tryz.prog #[f0] = true ∧ Tryz.prog.cellsOf 24 = 1 ∧ Tryz.prog.underlying f0.type = some (.slice 62) :=
  ⟨_, Tryz.underlying24, by kernel_rfl, by kernel_rfl, by kernel_rfl⟩
end
end Go.Proofs.YtmfaabedfdppcaaGreatDoor
namespace Go.Proofs.YtmfaabedfdppcaaGreatDoor
open Go.ChangeShapes Go.WideShapes Go.ChangeAt Go.RowKit Go.Deep
set_option maxRecDepth 1000000
set_option linter.unusedVariables false
set_option linter.unusedSimpArgs false
set_option maxHeartbeats 1000000
theorem fieldsMM : ∃ f0 f1, Tryz.prog.underlying 29 = some (.struct #[f0, f1]) ∧ oneCellFields Tryz.prog #[f0, f1] = true ∧ Tryz.prog.cellsOf 29 = 2 ∧ f0.type = 26 ∧ f1.type = 27 :=
  ⟨_, _, Tryz.underlying29, by kernel_rfl, by kernel_rfl, by kernel_rfl, by kernel_rfl⟩
theorem fieldsMF : ∃ f0 f1 f2, Tryz.prog.underlying 33 = some (.struct #[f0, f1, f2]) ∧ oneCellFields Tryz.prog #[f0, f1, f2] = true ∧ Tryz.prog.cellsOf 33 = 3 ∧ f0.type = 3 ∧ f1.type = 31 ∧ f2.type = 31 :=
  ⟨_, _, _, Tryz.underlying33, by kernel_rfl, by kernel_rfl, by kernel_rfl, by kernel_rfl, by kernel_rfl⟩
theorem fieldsMV : ∃ f0 f1 f2, Tryz.prog.underlying 39 = some (.struct #[f0, f1, f2]) ∧ oneCellFields Tryz.prog #[f0, f1, f2] = true ∧ Tryz.prog.cellsOf 39 = 3 ∧ f0.type = 35 ∧ f1.type = 36 ∧ f2.type = 37 :=
  ⟨_, _, _, Tryz.underlying39, by kernel_rfl, by kernel_rfl, by kernel_rfl, by kernel_rfl, by kernel_rfl⟩
theorem fieldsME : ∃ f0 f1 f2 f3, Tryz.prog.underlying 117 = some (.struct #[f0, f1, f2, f3]) ∧ oneCellFields Tryz.prog #[f0, f1, f2, f3] = true ∧ Tryz.prog.cellsOf 117 = 4 ∧ f0.type = 3 ∧ f1.type = 3 ∧ f2.type = 35 ∧ f3.type = 36 :=
  ⟨_, _, _, _, Tryz.underlying117, by kernel_rfl, by kernel_rfl, by kernel_rfl, by kernel_rfl, by kernel_rfl, by kernel_rfl⟩
section
variable {H : Type} {enc : TypeId × Value → H} {W : World} {spare : Nat → Bool} {held : Bool}
theorem u64_open {n : Nat} {v : Value} {y : DataW H × List MemPlace} (h : DataW.trod enc Tryz.prog W 0 spare held n 35 [v] = some y) : ∃ x : Int, v = .int .u64 x ∧ U64 x := by
  obtain ⟨x, e, rfl, hs⟩ := DataW.trod_int Tryz.underlying35 h
  simp at e
  subst e
  refine ⟨x, rfl, ?_⟩
  unfold U64
  simp [Lit.wf, IntKind.min, IntKind.max, IntKind.signed, IntKind.bits] at hs
  omega
theorem u8_open (n : Nat) (cs : List Value) (y : DataW H × List MemPlace) (h : DataW.trod enc Tryz.prog W 0 spare held n 5 cs = some y) : ∃ x : Int, cs = [.int .u8 x] ∧ (0 ≤ x ∧ x ≤ 255) := by
  obtain ⟨x, e, rfl, hs⟩ := DataW.trod_int Tryz.underlying5 h
  subst e
  refine ⟨x, rfl, ?_⟩
  simp [Lit.wf, IntKind.min, IntKind.max, IntKind.signed, IntKind.bits] at hs
  omega
theorem flat_one {α β : Type} (f : α → β) : ∀ l : List α, l.flatMap (fun x => [f x]) = l.map f
  | [] => rfl
  | x :: l => by rw [List.flatMap_cons, List.map_cons, flat_one f l]; rfl
theorem by_open {n : Nat} {v : Value} {y : DataW H × List MemPlace} (h : DataW.trod enc Tryz.prog W 0 spare held n 36 [v] = some y) (hb : Rows.uptoBulk y.1 ≤ 4000000) : ∃ b : List Int, ByE W AnyZ v b := by
  obtain ⟨a, c, xs, rfl, r, hl, q⟩ := rows_open (fun x : Int => [Value.int .u8 x]) 1 (by decide) (fun x _ => 0 ≤ x ∧ x ≤ 255) Tryz.underlying36 (by kernel_rfl) (fun _ => rfl) u8_open h
  rw [flat_one] at r
  exact ⟨xs, r, fun x hx => by obtain ⟨d, hd, _⟩ := q x hx; exact hd, by omega⟩
theorem rowM_open {α : Type} (x0 : α) (E : List Value → α → Prop) (K : Nat) (hK0 : 0 < K) (N : Nat) (hN : N ≤ 4000000) {t e : TypeId} (ht : Tryz.prog.underlying t = some (.slice e)) (hK : Tryz.prog.cellsOf e = K) (hlen : ∀ (n : Nat) (cs : List Value) (y : DataW H × List MemPlace), DataW.trod enc Tryz.prog W 0 spare held n e cs = some y → cs.length = K)
    (hel : ∀ (n : Nat) (cs : List Value) (y : DataW H × List MemPlace), DataW.trod enc Tryz.prog W 0 spare held n e cs = some y → Rows.uptoBulk y.1 ≤ N → ∃ x, E cs x) {n : Nat} {v : Value} {y : DataW H × List MemPlace} (hf : DataW.trod enc Tryz.prog W 0 spare held n t [v] = some y) (hb : Rows.uptoBulk y.1 ≤ N) : ∃ xs : List α, RowM W AnyZ K E v xs := by
  obtain ⟨a, c, xs, rfl, r, hl, q⟩ := rows_open (α := {p : List Value × α // p.1.length = K}) (fun p => p.1.1) K hK0 (fun p d => Rows.uptoBulk d ≤ N → E p.1.1 p.1.2) ht hK (fun p => p.2) (fun n cs y h => by
    by_cases hb : Rows.uptoBulk y.1 ≤ N
    · obtain ⟨x, hx⟩ := hel n cs y h hb
      exact ⟨⟨(cs, x), hlen n cs y h⟩, rfl, fun _ => hx⟩
    · exact ⟨⟨(cs, x0), hlen n cs y h⟩, rfl, fun g => absurd g hb⟩) hf
  refine ⟨xs.map (fun p => p.1.2), xs.map (fun p => (⟨p.1.1, p.2⟩ : Tup K)), ?_, by simp, by simp; omega, fun i t x h1 h2 => ?_⟩
  · rw [List.length_map, List.flatMap_map]
    exact r
  · rw [List.getElem?_map] at h1 h2
    cases hp : xs[i]? with
    | none => rw [hp] at h1; cases h1
    | some p =>
      rw [hp] at h1 h2
      simp only [Option.map_some, Option.some.injEq] at h1 h2
      subst h1 h2
      obtain ⟨d, hd, hdb⟩ := q p (List.mem_of_getElem? hp)
      exact hd (by omega)
theorem enB_len (n : Nat) (cs : List Value) (y : DataW H × List MemPlace) (h : DataW.trod enc Tryz.prog W 0 spare held n 117 cs = some y) : cs.length = 4 := by
  obtain ⟨f0, f1, f2, f3, hs, hone, hsz, -⟩ := fieldsME
  obtain ⟨xs, m, hy, hxl, hcl, hi⟩ := struct_open hs hone hsz h
  exact hcl
theorem vlB_len (n : Nat) (cs : List Value) (y : DataW H × List MemPlace) (h : DataW.trod enc Tryz.prog W 0 spare held n 39 cs = some y) : cs.length = 3 := by
  obtain ⟨f0, f1, f2, hs, hone, hsz, -⟩ := fieldsMV
  obtain ⟨xs, m, hy, hxl, hcl, hi⟩ := struct_open hs hone hsz h
  exact hcl
theorem flB_len (n : Nat) (cs : List Value) (y : DataW H × List MemPlace) (h : DataW.trod enc Tryz.prog W 0 spare held n 33 cs = some y) : cs.length = 3 := by
  obtain ⟨f0, f1, f2, hs, hone, hsz, -⟩ := fieldsMF
  obtain ⟨xs, m, hy, hxl, hcl, hi⟩ := struct_open hs hone hsz h
  exact hcl
theorem mgB_len (n : Nat) (cs : List Value) (y : DataW H × List MemPlace) (h : DataW.trod enc Tryz.prog W 0 spare held n 29 cs = some y) : cs.length = 2 := by
  obtain ⟨f0, f1, hs, hone, hsz, -⟩ := fieldsMM
  obtain ⟨xs, m, hy, hxl, hcl, hi⟩ := struct_open hs hone hsz h
  exact hcl
theorem en_open (N : Nat) (hN : N ≤ 4000000) (n : Nat) (cs : List Value) (y : DataW H × List MemPlace) (h : DataW.trod enc Tryz.prog W 0 spare held n 117 cs = some y) (hb : Rows.uptoBulk y.1 ≤ N) : ∃ x : CE, EntE W AnyZ cs x := by
  obtain ⟨f0, f1, f2, f3, hs, hone, hsz, t0, t1, t2, t3⟩ := fieldsME
  obtain ⟨xs, m, hy, hxl, hcl, hi⟩ := struct_open hs hone hsz h
  obtain ⟨v0, y0, c0, x0, h0⟩ := hi 0 f0 rfl
  obtain ⟨v1, y1, c1, x1, h1⟩ := hi 1 f1 rfl
  obtain ⟨v2, y2, c2, x2, h2⟩ := hi 2 f2 rfl
  obtain ⟨v3, y3, c3, x3, h3⟩ := hi 3 f3 rfl
  rw [t0] at h0
  rw [t1] at h1
  rw [t2] at h2
  rw [t3] at h3
  have b3 := bulk_get x3
  rw [← hy] at b3
  obtain ⟨a0, rfl, k0⟩ := int_open h0
  obtain ⟨a1, rfl, k1⟩ := int_open h1
  obtain ⟨a2, rfl, k2⟩ := u64_open h2
  obtain ⟨a3, k3⟩ := by_open h3 (by omega)
  refine ⟨⟨a0, a1, a2, a3⟩, v3, list_eq _ (by rw [hcl]; rfl) fun i v hv => ?_, k3, k0, k1, k2⟩
  match i, hv with
  | 0, hv => simp at hv; subst hv; exact c0
  | 1, hv => simp at hv; subst hv; exact c1
  | 2, hv => simp at hv; subst hv; exact c2
  | 3, hv => simp at hv; subst hv; exact c3
  | i + 4, hv => simp at hv
theorem vl_open (R : List Value → CM → Prop) (N : Nat) (hN : N ≤ 4000000) (IH : ∀ (n : Nat) (cs : List Value) (y : DataW H × List MemPlace), DataW.trod enc Tryz.prog W 0 spare held n 29 cs = some y → Rows.uptoBulk y.1 ≤ N → ∃ m, R cs m) (n : Nat) (cs : List Value) (y : DataW H × List MemPlace) (h : DataW.trod enc Tryz.prog W 0 spare held n 39 cs = some y) (hb : Rows.uptoBulk y.1 ≤ N) : ∃ x : CV CM, ValE W AnyZ R cs x := by
  obtain ⟨f0, f1, f2, hs, hone, hsz, t0, t1, t2⟩ := fieldsMV
  obtain ⟨xs, m, hy, hxl, hcl, hi⟩ := struct_open hs hone hsz h
  obtain ⟨v0, y0, c0, x0, h0⟩ := hi 0 f0 rfl
  obtain ⟨v1, y1, c1, x1, h1⟩ := hi 1 f1 rfl
  obtain ⟨v2, y2, c2, x2, h2⟩ := hi 2 f2 rfl
  rw [t0] at h0
  rw [t1] at h1
  rw [t2] at h2
  have b1 := bulk_get x1
  have b2 := bulk_get x2
  rw [← hy] at b1 b2
  obtain ⟨a0, rfl, k0⟩ := u64_open h0
  obtain ⟨a1, k1⟩ := by_open h1 (by omega)
  obtain ⟨a2, k2⟩ := rowM_open (CM.mk [] []) R 2 (by decide) N hN Tryz.underlying37 (by kernel_rfl) mgB_len IH h2 (by omega)
  refine ⟨⟨a0, a1, a2⟩, v1, v2, list_eq _ (by rw [hcl]; rfl) fun i v hv => ?_, k1, k2, k0⟩
  match i, hv with
  | 0, hv => simp at hv; subst hv; exact c0
  | 1, hv => simp at hv; subst hv; exact c1
  | 2, hv => simp at hv; subst hv; exact c2
  | i + 3, hv => simp at hv
end
end Go.Proofs.YtmfaabedfdppcaaGreatDoor
namespace Go.Proofs.YtmfaabedfdppcaaGreatDoor
open Go.RowKit
set_option maxRecDepth 1000000
set_option linter.unusedVariables false
set_option linter.unusedSimpArgs false
set_option maxHeartbeats 1000000
theorem RowM.each {α : Type} {w : World} {Z : Nat → Prop} {k : Nat} {E : List Value → α → Prop} {v : Value} {xs : List α} (h : RowM w Z k E v xs) : ∀ x ∈ xs, ∃ cs, E cs x := by
  obtain ⟨ts, -, h2, -, h4⟩ := h
  intro x hx
  obtain ⟨i, hi, rfl⟩ := List.mem_iff_getElem.1 hx
  exact ⟨_, h4 i ts[i] xs[i] (List.getElem?_eq_getElem (by omega)) (List.getElem?_eq_getElem hi)⟩
theorem valE_two {w : World} {Z : Nat → Prop} {R : List Value → CM → Prop} {S : CM → Prop} {cs : List Value} {x : CV CM} (h : ValE w Z (fun cs m => R cs m ∧ S m) cs x) : ValE w Z R cs x ∧ ∀ m ∈ x.ms, S m := by
  obtain ⟨bv, mv, e, h1, h2, h3⟩ := h
  exact ⟨⟨bv, mv, e, h1, h2.imp (fun _ _ _ q => q.1), h3⟩, fun m hm => by
    obtain ⟨_, q⟩ := RowM.each h2 m hm
    exact q.2⟩
theorem fldE_two {w : World} {Z : Nat → Prop} {R : List Value → CM → Prop} {S : CM → Prop} {cs : List Value} {x : CF CM} (h : FldE w Z (fun cs m => R cs m ∧ S m) cs x) : FldE w Z R cs x ∧ ∀ m ∈ allM x, S m := by
  obtain ⟨kv, vv, e, h1, h2, h3⟩ := h
  refine ⟨⟨kv, vv, e, h1.imp (fun _ _ _ q => (valE_two q).1), h2.imp (fun _ _ _ q => (valE_two q).1), h3⟩, fun m hm => ?_⟩
  unfold allM at hm
  rcases List.mem_append.1 hm with g | g
  · obtain ⟨v, hv, hm⟩ := List.mem_flatMap.1 g
    obtain ⟨_, q⟩ := RowM.each h1 v hv
    exact (valE_two q).2 m hm
  · obtain ⟨v, hv, hm⟩ := List.mem_flatMap.1 g
    obtain ⟨_, q⟩ := RowM.each h2 v hv
    exact (valE_two q).2 m hm
section
variable {H : Type} {enc : TypeId × Value → H} {W : World} {spare : Nat → Bool} {held : Bool}
theorem rowN_open {α : Type} (x0 : α) (E : List Value → α → Prop) (K : Nat) (hK0 : 0 < K) (N : Nat) (hN : N ≤ 4000000) {t e : TypeId} (ht : Tryz.prog.underlying t = some (.slice e)) (hK : Tryz.prog.cellsOf e = K) (hlen : ∀ (n : Nat) (cs : List Value) (y : DataW H × List MemPlace), DataW.trod enc Tryz.prog W 0 spare held n e cs = some y → cs.length = K)
    (hel : ∀ (n : Nat) (cs : List Value) (y : DataW H × List MemPlace), DataW.trod enc Tryz.prog W 0 spare held n e cs = some y → Rows.uptoBulk y.1 ≤ N → ∃ x, E cs x) {n : Nat} {v : Value} {y : DataW H × List MemPlace} (hf : DataW.trod enc Tryz.prog W 0 spare held n t [v] = some y) (hb : Rows.uptoBulk y.1 ≤ N) : ∃ xs : List α, RowM W AnyZ K E v xs ∧ xs.length ≤ N := by
  obtain ⟨a, c, xs, rfl, r, hl, q⟩ := rows_open (α := {p : List Value × α // p.1.length = K}) (fun p => p.1.1) K hK0 (fun p d => Rows.uptoBulk d ≤ N → E p.1.1 p.1.2) ht hK (fun p => p.2) (fun n cs y h => by
    by_cases hb : Rows.uptoBulk y.1 ≤ N
    · obtain ⟨x, hx⟩ := hel n cs y h hb
      exact ⟨⟨(cs, x), hlen n cs y h⟩, rfl, fun _ => hx⟩
    · exact ⟨⟨(cs, x0), hlen n cs y h⟩, rfl, fun g => absurd g hb⟩) hf
  refine ⟨xs.map (fun p => p.1.2), ⟨xs.map (fun p => (⟨p.1.1, p.2⟩ : Tup K)), ?_, by simp, by simp; omega, fun i t x h1 h2 => ?_⟩, by simp; omega⟩
  · rw [List.length_map, List.flatMap_map]
    exact r
  · rw [List.getElem?_map] at h1 h2
    cases hp : xs[i]? with
    | none => rw [hp] at h1; cases h1
    | some p =>
      rw [hp] at h1 h2
      simp only [Option.map_some, Option.some.injEq] at h1 h2
      subst h1 h2
      obtain ⟨d, hd, hdb⟩ := q p (List.mem_of_getElem? hp)
      exact hd (by omega)
theorem fl_openS (R : List Value → CM → Prop) (N : Nat) (hN : N ≤ 4000000) (IH : ∀ (n : Nat) (cs : List Value) (y : DataW H × List MemPlace), DataW.trod enc Tryz.prog W 0 spare held n 29 cs = some y → Rows.uptoBulk y.1 ≤ N → ∃ m, R cs m) (n : Nat) (cs : List Value) (y : DataW H × List MemPlace) (h : DataW.trod enc Tryz.prog W 0 spare held n 33 cs = some y) (hb : Rows.uptoBulk y.1 ≤ N) : ∃ x : CF CM, FldE W AnyZ R cs x ∧ x.ks.length ≤ N ∧ x.vs.length ≤ N := by
  obtain ⟨f0, f1, f2, hs, hone, hsz, t0, t1, t2⟩ := fieldsMF
  obtain ⟨xs, m, hy, hxl, hcl, hi⟩ := struct_open hs hone hsz h
  obtain ⟨v0, y0, c0, x0, h0⟩ := hi 0 f0 rfl
  obtain ⟨v1, y1, c1, x1, h1⟩ := hi 1 f1 rfl
  obtain ⟨v2, y2, c2, x2, h2⟩ := hi 2 f2 rfl
  rw [t0] at h0
  rw [t1] at h1
  rw [t2] at h2
  have b1 := bulk_get x1
  have b2 := bulk_get x2
  rw [← hy] at b1 b2
  obtain ⟨a0, rfl, k0⟩ := int_open h0
  obtain ⟨a1, k1, n1⟩ := rowN_open (⟨0, [], []⟩ : CV CM) (ValE W AnyZ R) 3 (by decide) N hN Tryz.underlying31 (by kernel_rfl) vlB_len (vl_open R N hN IH) h1 (by omega)
  obtain ⟨a2, k2, n2⟩ := rowN_open (⟨0, [], []⟩ : CV CM) (ValE W AnyZ R) 3 (by decide) N hN Tryz.underlying31 (by kernel_rfl) vlB_len (vl_open R N hN IH) h2 (by omega)
  refine ⟨⟨a0, a1, a2⟩, ⟨v1, v2, list_eq _ (by rw [hcl]; rfl) fun i v hv => ?_, k1, k2, k0⟩, n1, n2⟩
  match i, hv with
  | 0, hv => simp at hv; subst hv; exact c0
  | 1, hv => simp at hv; subst hv; exact c1
  | 2, hv => simp at hv; subst hv; exact c2
  | i + 3, hv => simp at hv
/-- A message that comes in, so great at most, lies as it should, so deep at most, and none of its lists is longer than L. -/
theorem mg_openS (L : Nat) : ∀ (N : Nat), N ≤ L → L ≤ 4000000 → ∀ (n : Nat) (cs : List Value) (y : DataW H × List MemPlace), DataW.trod enc Tryz.prog W 0 spare held n 29 cs = some y → Rows.uptoBulk y.1 ≤ N → ∃ m, MsgE W AnyZ N cs m ∧ sizM L N m
  | 0, _, _, n, cs, y, h, hb => absurd (bulk_one y.1) (by omega)
  | N + 1, hN, hL, n, cs, y, h, hb => by
    obtain ⟨f0, f1, hs, hone, hsz, t0, t1⟩ := fieldsMM
    obtain ⟨xs, m, hy, hxl, hcl, hi⟩ := struct_open hs hone hsz h
    obtain ⟨v0, y0, c0, x0, h0⟩ := hi 0 f0 rfl
    obtain ⟨v1, y1, c1, x1, h1⟩ := hi 1 f1 rfl
    rw [t0] at h0
    rw [t1] at h1
    have b0 := bulk_get x0
    have b1 := bulk_get x1
    rw [← hy] at b0 b1
    obtain ⟨a0, k0, n0⟩ := rowN_open (⟨0, [], []⟩ : CF CM) (fun cs x => FldE W AnyZ (fun cs m => MsgE W AnyZ N cs m ∧ sizM L N m) cs x ∧ x.ks.length ≤ N ∧ x.vs.length ≤ N) 3 (by decide) N (by omega) Tryz.underlying26 (by kernel_rfl) flB_len (fl_openS _ N (by omega) (mg_openS L N (by omega) hL)) h0 (by omega)
    obtain ⟨a1, k1, n1⟩ := rowN_open (⟨0, 0, 0, []⟩ : CE) (EntE W AnyZ) 4 (by decide) N (by omega) Tryz.underlying27 (by kernel_rfl) enB_len (en_open N (by omega)) h1 (by omega)
    refine ⟨CM.mk a0 a1, ⟨v0, v1, list_eq _ (by rw [hcl]; rfl) fun i v hv => ?_, k0.imp (fun _ _ _ q => (fldE_two q.1).1), k1⟩, Nat.le_trans n0 (by omega), Nat.le_trans n1 (by omega), fun f hf => ?_⟩
    · match i, hv with
      | 0, hv => simp at hv; subst hv; exact c0
      | 1, hv => simp at hv; subst hv; exact c1
      | i + 2, hv => simp at hv
    · obtain ⟨_, q⟩ := RowM.each k0 f hf
      exact ⟨by omega, by omega, (fldE_two q.1).2⟩
end
end Go.Proofs.YtmfaabedfdppcaaGreatDoor
