/-
  The law's own look at a declaration: two of the same tree.
  The law's own look at a file: two of the same tree.
  Walks over the document's Unquote.
  The document's Unquote at every string; 'awake' returns true.
-/
import Derived.Test.YtidimdbnnnpplaaGreatDoorCP4
import Derived.Test.YtidimdbnnnpplaaGreatDoorJJ
import Derived.Laws.Runes
namespace Go.Proofs.YtidimdbnnnpplaaGreatDoor
open Go.RowKit
set_option maxRecDepth 1000000
set_option linter.unusedVariables false
set_option linter.unusedSimpArgs false
set_option maxHeartbeats 3000000
theorem declY_succ {n : Nat} (HD : DeclsY n) : DeclY (n + 1) := by
  intro x y w Z1 Z2 he hx hy
  obtain ⟨xd, xf, xo, xdd, xr, xs⟩ := x
  obtain ⟨yd, yf, yo, ydd, yr, ys⟩ := y
  dsimp only at he
  subst he
  obtain ⟨r1f, r1o, r1r, r1s, dv, e1, r1d, g1⟩ := hx
  obtain ⟨r2f, r2o, r2r, r2s, dw, e2, r2d, g2⟩ := hy
  dsimp only at r1f r1o r1r r1s r1d r2f r2o r2r r2s r2d e1 e2
  have hdl : dw.length = dv.length := by have := congrArg List.length (e2.trans e1.symm); simpa using this
  obtain ⟨en, nm, ⟨al, ac⟩, fs, os, ds, rs, ss⟩ := xd
  dsimp only at r1f r1o r1r r1s r1d r2f r2o r2r r2s r2d e1 e2 ⊢
  obtain ⟨fa1, fc1, rfl, mf1⟩ : ∃ a c, xf = .slice a fs.length c ∧ fs.length ≤ 9223372036854775807 := rowS_sl r1f
  obtain ⟨fa2, fc2, rfl, mf2⟩ : ∃ a c, yf = .slice a fs.length c ∧ fs.length ≤ 9223372036854775807 := rowS_sl r2f
  obtain ⟨oa1, oc1, rfl, mo1⟩ : ∃ a c, xo = .slice a os.length c ∧ os.length ≤ 9223372036854775807 := rowS_sl r1o
  obtain ⟨oa2, oc2, rfl, mo2⟩ : ∃ a c, yo = .slice a os.length c ∧ os.length ≤ 9223372036854775807 := rowS_sl r2o
  obtain ⟨ra1, rc1, rfl, mr1⟩ : ∃ a c, xr = .slice a rs.length c ∧ rs.length ≤ 9223372036854775807 := rowS_sl r1r
  obtain ⟨ra2, rc2, rfl, mr2⟩ : ∃ a c, yr = .slice a rs.length c ∧ rs.length ≤ 9223372036854775807 := rowS_sl r2r
  obtain ⟨ta1, tc1, rfl, ms1⟩ : ∃ a c, xs = .slice a ss.length c ∧ ss.length ≤ 9223372036854775807 := rowS_sl r1s
  obtain ⟨ta2, tc2, rfl, ms2⟩ : ∃ a c, ys = .slice a ss.length c ∧ ss.length ≤ 9223372036854775807 := rowS_sl r2s
  obtain ⟨da1, dc1, rfl, md1⟩ : ∃ a c, xdd = .slice a dv.length c ∧ dv.length ≤ 9223372036854775807 := rowS_sl r1d
  obtain ⟨da2, dc2, rfl, md2⟩ : ∃ a c, ydd = .slice a dw.length c ∧ dw.length ≤ 9223372036854775807 := rowS_sl r2d
  have HC := hid (fun W (hb : Below w.heap.size w W) => HD dv dw da1 dc1 da2 dc2 W Z1 Z2 (e1.trans e2.symm) (r1d.kept hb) (r2d.kept hb) (fun x hx => (g1 x hx).kept hb) (fun x hx => (g2 x hx).kept hb))
  rw [hdl] at HC ⊢
  have R1f := hid r1f
  have R2f := hid r2f
  have R1o := hid r1o
  have R2o := hid r2o
  have R1r := hid r1r
  have R2r := hid r2r
  have R1s := hid r1s
  have R2s := hid r2s
  clear r1f r1o r1r r1s r1d r2f r2o r2r r2s r2d e1 e2 g1 g2 hdl HD md2 mf2 mo2 mr2 ms2
  generalize hnnf : fs.length = nf at *
  replace hnnf := hid hnnf
  generalize hnno : os.length = no at *
  replace hnno := hid hnno
  generalize hnnr : rs.length = nr at *
  replace hnnr := hid hnnr
  generalize hnns : ss.length = ns at *
  replace hnns := hid hnns
  generalize dv.length = nd at *
  have hb0 : Hid (Below w.heap.size w w) := hid (Below.refl _ _)
  go_enter Tryz.func48, Tryz.ntmps48
  go_wp2_with fail
  refine (placeYes al ac _).mono ?_
  rintro e w1 ⟨rfl, hb1⟩
  have Ba : Blk w1 (w.heap.size) 102 #[.bool en, .string (strOfNums nm), .int .i64 al, .int .i64 ac, .slice fa1 nf fc1, .slice oa1 no oc1, .slice da1 nd dc1, .slice ra1 nr rc1, .slice ta1 ns tc1] := Blk.kept (((Blk.newAt (by simp)).kept (below_alloc _)).is (by first | rfl | simp)) hb1
  have Bv : Blk w1 (w.heap.size + 1) 74 #[.bool en, .string (strOfNums nm), .int .i64 al, .int .i64 ac, .slice fa2 nf fc2, .slice oa2 no oc2, .slice da2 nd dc2, .slice ra2 nr rc2, .slice ta2 ns tc2] := Blk.kept ((Blk.newAt (by simp)).is (by first | rfl | simp)) hb1
  have hs1 := hb1.size
  try simp at hs1
  have xa := Ba.cellF
  have ya := Ba.frz
  have za : w.heap.size < w1.heap.size := by omega
  have xv := Bv.cellF
  have yv := Bv.frz
  have zv : w.heap.size + 1 < w1.heap.size := by omega
  replace hb1 : Hid (Below w.heap.size w w1) := hid (bl_then (by have := hb0.out; exact blBy) hb1)
  have HBA := hid Ba
  have HBV := hid Bv
  go_wp2
  go_loopw [5] (fun r wr => ∃ k : Nat, k ≤ nf ∧ r = .int .i64 k ∧ Hid (Below w.heap.size w wr) ∧ Hid (Blk wr (w.heap.size) 102 #[.bool en, .string (strOfNums nm), .int .i64 al, .int .i64 ac, .slice fa1 nf fc1, .slice oa1 no oc1, .slice da1 nd dc1, .slice ra1 nr rc1, .slice ta1 ns tc1]) ∧ Hid (Blk wr (w.heap.size + 1) 74 #[.bool en, .string (strOfNums nm), .int .i64 al, .int .i64 ac, .slice fa2 nf fc2, .slice oa2 no oc2, .slice da2 nd dc2, .slice ra2 nr rc2, .slice ta2 ns tc2])) (fun r _ => nf - (intOf r).toNat)
  case atStart => exact ⟨0, by omega, rfl, hb1, HBA, HBV⟩
  case round =>
    obtain ⟨k, hk, rfl, hbw0, BA0, BV0⟩ := hrel
    have xa0 := BA0.out.cellF
    have xv0 := BV0.out.cellF
    have za0 := BA0.out.lt
    have zv0 := BV0.out.lt
    by_cases hlt : k < nf
    · obtain ⟨g, hg⟩ : ∃ g, fs[k]? = some g := ⟨_, List.getElem?_eq_getElem (by rw [hnnf.out]; exact hlt)⟩
      obtain ⟨b1, o1, rfl, q1⟩ := rowAt cF_len (RowS.kept (show RowS w Z1 15 (.slice fa1 nf fc1) fs.length _ by rw [hnnf.out]; exact R1f.out) hbw0.out) hg
      obtain ⟨b2, o2, rfl, q2⟩ := rowAt cF_len (RowS.kept (show RowS w Z2 15 (.slice fa2 nf fc2) fs.length _ by rw [hnnf.out]; exact R2f.out) hbw0.out) hg
      have P1 : Hid (wr.cell? ⟨b1, o1 + k * 15, none⟩ = some (.string (strOfNums g.name)) ∧ wr.cell? ⟨b1, o1 + k * 15 + 1, none⟩ = some (.string (strOfNums g.ty)) ∧ wr.cell? ⟨b1, o1 + k * 15 + 2, none⟩ = some (.string (strOfNums g.key)) ∧ wr.cell? ⟨b1, o1 + k * 15 + 3, none⟩ = some (.int .u64 g.num) ∧ wr.cell? ⟨b1, o1 + k * 15 + 4, none⟩ = some (.int .i64 g.label) ∧ wr.cell? ⟨b1, o1 + k * 15 + 5, none⟩ = some (.int .i64 g.packed) ∧ wr.cell? ⟨b1, o1 + k * 15 + 6, none⟩ = some (.int .i64 g.oneof) ∧ wr.cell? ⟨b1, o1 + k * 15 + 7, none⟩ = some (.int .i64 g.at1.1) ∧ wr.cell? ⟨b1, o1 + k * 15 + 8, none⟩ = some (.int .i64 g.at1.2) ∧ wr.cell? ⟨b1, o1 + k * 15 + 9, none⟩ = some (.int .i64 g.nat1.1) ∧ wr.cell? ⟨b1, o1 + k * 15 + 10, none⟩ = some (.int .i64 g.nat1.2) ∧ wr.cell? ⟨b1, o1 + k * 15 + 11, none⟩ = some (.int .i64 g.tat.1) ∧ wr.cell? ⟨b1, o1 + k * 15 + 12, none⟩ = some (.int .i64 g.tat.2) ∧ wr.cell? ⟨b1, o1 + k * 15 + 13, none⟩ = some (.int .i64 g.mat.1) ∧ wr.cell? ⟨b1, o1 + k * 15 + 14, none⟩ = some (.int .i64 g.mat.2)) := hid ⟨q1 0 _ rfl, q1 1 _ rfl, q1 2 _ rfl, q1 3 _ rfl, q1 4 _ rfl, q1 5 _ rfl, q1 6 _ rfl, q1 7 _ rfl, q1 8 _ rfl, q1 9 _ rfl, q1 10 _ rfl, q1 11 _ rfl, q1 12 _ rfl, q1 13 _ rfl, q1 14 _ rfl⟩
      have P2 : Hid (wr.cell? ⟨b2, o2 + k * 15, none⟩ = some (.string (strOfNums g.name)) ∧ wr.cell? ⟨b2, o2 + k * 15 + 1, none⟩ = some (.string (strOfNums g.ty)) ∧ wr.cell? ⟨b2, o2 + k * 15 + 2, none⟩ = some (.string (strOfNums g.key)) ∧ wr.cell? ⟨b2, o2 + k * 15 + 3, none⟩ = some (.int .u64 g.num) ∧ wr.cell? ⟨b2, o2 + k * 15 + 4, none⟩ = some (.int .i64 g.label) ∧ wr.cell? ⟨b2, o2 + k * 15 + 5, none⟩ = some (.int .i64 g.packed) ∧ wr.cell? ⟨b2, o2 + k * 15 + 6, none⟩ = some (.int .i64 g.oneof) ∧ wr.cell? ⟨b2, o2 + k * 15 + 7, none⟩ = some (.int .i64 g.at1.1) ∧ wr.cell? ⟨b2, o2 + k * 15 + 8, none⟩ = some (.int .i64 g.at1.2) ∧ wr.cell? ⟨b2, o2 + k * 15 + 9, none⟩ = some (.int .i64 g.nat1.1) ∧ wr.cell? ⟨b2, o2 + k * 15 + 10, none⟩ = some (.int .i64 g.nat1.2) ∧ wr.cell? ⟨b2, o2 + k * 15 + 11, none⟩ = some (.int .i64 g.tat.1) ∧ wr.cell? ⟨b2, o2 + k * 15 + 12, none⟩ = some (.int .i64 g.tat.2) ∧ wr.cell? ⟨b2, o2 + k * 15 + 13, none⟩ = some (.int .i64 g.mat.1) ∧ wr.cell? ⟨b2, o2 + k * 15 + 14, none⟩ = some (.int .i64 g.mat.2)) := hid ⟨q2 0 _ rfl, q2 1 _ rfl, q2 2 _ rfl, q2 3 _ rfl, q2 4 _ rfl, q2 5 _ rfl, q2 6 _ rfl, q2 7 _ rfl, q2 8 _ rfl, q2 9 _ rfl, q2 10 _ rfl, q2 11 _ rfl, q2 12 _ rfl, q2 13 _ rfl, q2 14 _ rfl⟩
      clear q1 q2 hg
      have hki : (k : Int) < (nf : Int) := by omega
      have hk0 : (0 : Int) ≤ (k : Int) := by omega
      go_wp2_with fail
      go_region_held3 (fun W => W.cell? ⟨w.heap.size, 4, none⟩ = some (.slice (some ⟨b1, o1, none⟩) nf fc1) ∧ W.cell? ⟨w.heap.size + 1, 4, none⟩ = some (.slice (some ⟨b2, o2, none⟩) nf fc2) ∧ (W.cell? ⟨b1, o1 + k * 15, none⟩ = some (.string (strOfNums g.name)) ∧ W.cell? ⟨b1, o1 + k * 15 + 1, none⟩ = some (.string (strOfNums g.ty)) ∧ W.cell? ⟨b1, o1 + k * 15 + 2, none⟩ = some (.string (strOfNums g.key)) ∧ W.cell? ⟨b1, o1 + k * 15 + 3, none⟩ = some (.int .u64 g.num) ∧ W.cell? ⟨b1, o1 + k * 15 + 4, none⟩ = some (.int .i64 g.label) ∧ W.cell? ⟨b1, o1 + k * 15 + 5, none⟩ = some (.int .i64 g.packed) ∧ W.cell? ⟨b1, o1 + k * 15 + 6, none⟩ = some (.int .i64 g.oneof) ∧ W.cell? ⟨b1, o1 + k * 15 + 7, none⟩ = some (.int .i64 g.at1.1) ∧ W.cell? ⟨b1, o1 + k * 15 + 8, none⟩ = some (.int .i64 g.at1.2) ∧ W.cell? ⟨b1, o1 + k * 15 + 9, none⟩ = some (.int .i64 g.nat1.1) ∧ W.cell? ⟨b1, o1 + k * 15 + 10, none⟩ = some (.int .i64 g.nat1.2) ∧ W.cell? ⟨b1, o1 + k * 15 + 11, none⟩ = some (.int .i64 g.tat.1) ∧ W.cell? ⟨b1, o1 + k * 15 + 12, none⟩ = some (.int .i64 g.tat.2) ∧ W.cell? ⟨b1, o1 + k * 15 + 13, none⟩ = some (.int .i64 g.mat.1) ∧ W.cell? ⟨b1, o1 + k * 15 + 14, none⟩ = some (.int .i64 g.mat.2)) ∧ (W.cell? ⟨b2, o2 + k * 15, none⟩ = some (.string (strOfNums g.name)) ∧ W.cell? ⟨b2, o2 + k * 15 + 1, none⟩ = some (.string (strOfNums g.ty)) ∧ W.cell? ⟨b2, o2 + k * 15 + 2, none⟩ = some (.string (strOfNums g.key)) ∧ W.cell? ⟨b2, o2 + k * 15 + 3, none⟩ = some (.int .u64 g.num) ∧ W.cell? ⟨b2, o2 + k * 15 + 4, none⟩ = some (.int .i64 g.label) ∧ W.cell? ⟨b2, o2 + k * 15 + 5, none⟩ = some (.int .i64 g.packed) ∧ W.cell? ⟨b2, o2 + k * 15 + 6, none⟩ = some (.int .i64 g.oneof) ∧ W.cell? ⟨b2, o2 + k * 15 + 7, none⟩ = some (.int .i64 g.at1.1) ∧ W.cell? ⟨b2, o2 + k * 15 + 8, none⟩ = some (.int .i64 g.at1.2) ∧ W.cell? ⟨b2, o2 + k * 15 + 9, none⟩ = some (.int .i64 g.nat1.1) ∧ W.cell? ⟨b2, o2 + k * 15 + 10, none⟩ = some (.int .i64 g.nat1.2) ∧ W.cell? ⟨b2, o2 + k * 15 + 11, none⟩ = some (.int .i64 g.tat.1) ∧ W.cell? ⟨b2, o2 + k * 15 + 12, none⟩ = some (.int .i64 g.tat.2) ∧ W.cell? ⟨b2, o2 + k * 15 + 13, none⟩ = some (.int .i64 g.mat.1) ∧ W.cell? ⟨b2, o2 + k * 15 + 14, none⟩ = some (.int .i64 g.mat.2))) (first | exact ⟨Va.out.cellF 4, Vv.out.cellF 4, E1.out, E2.out⟩ | exact ⟨(BA0.out.kept (below_drew1 _)).cellF 4, (BV0.out.kept (below_drew1 _)).cellF 4, P1.out, P2.out⟩) (first | (go_at_call 83; refine (fieldYes g _).mono ?_; rintro e u1 ⟨rfl, hbu⟩; have hbz := bl_then (below_drew1 wr) hbu; have Va : Hid (Blk u1 (w.heap.size) 102 #[.bool en, .string (strOfNums nm), .int .i64 al, .int .i64 ac, .slice (some ⟨b1, o1, none⟩) nf fc1, .slice oa1 no oc1, .slice da1 nd dc1, .slice ra1 nr rc1, .slice ta1 ns tc1]) := hid (BA0.out.kept hbz); have Vv : Hid (Blk u1 (w.heap.size + 1) 74 #[.bool en, .string (strOfNums nm), .int .i64 al, .int .i64 ac, .slice (some ⟨b2, o2, none⟩) nf fc2, .slice oa2 no oc2, .slice da2 nd dc2, .slice ra2 nr rc2, .slice ta2 ns tc2]) := hid (BV0.out.kept hbz); have E1 : Hid (u1.cell? ⟨b1, o1 + k * 15, none⟩ = some (.string (strOfNums g.name)) ∧ u1.cell? ⟨b1, o1 + k * 15 + 1, none⟩ = some (.string (strOfNums g.ty)) ∧ u1.cell? ⟨b1, o1 + k * 15 + 2, none⟩ = some (.string (strOfNums g.key)) ∧ u1.cell? ⟨b1, o1 + k * 15 + 3, none⟩ = some (.int .u64 g.num) ∧ u1.cell? ⟨b1, o1 + k * 15 + 4, none⟩ = some (.int .i64 g.label) ∧ u1.cell? ⟨b1, o1 + k * 15 + 5, none⟩ = some (.int .i64 g.packed) ∧ u1.cell? ⟨b1, o1 + k * 15 + 6, none⟩ = some (.int .i64 g.oneof) ∧ u1.cell? ⟨b1, o1 + k * 15 + 7, none⟩ = some (.int .i64 g.at1.1) ∧ u1.cell? ⟨b1, o1 + k * 15 + 8, none⟩ = some (.int .i64 g.at1.2) ∧ u1.cell? ⟨b1, o1 + k * 15 + 9, none⟩ = some (.int .i64 g.nat1.1) ∧ u1.cell? ⟨b1, o1 + k * 15 + 10, none⟩ = some (.int .i64 g.nat1.2) ∧ u1.cell? ⟨b1, o1 + k * 15 + 11, none⟩ = some (.int .i64 g.tat.1) ∧ u1.cell? ⟨b1, o1 + k * 15 + 12, none⟩ = some (.int .i64 g.tat.2) ∧ u1.cell? ⟨b1, o1 + k * 15 + 13, none⟩ = some (.int .i64 g.mat.1) ∧ u1.cell? ⟨b1, o1 + k * 15 + 14, none⟩ = some (.int .i64 g.mat.2)) := hid (by obtain ⟨p0, p1, p2, p3, p4, p5, p6, p7, p8, p9, p10, p11, p12, p13, p14⟩ := P1.out; exact ⟨cell_below p0 hbz, cell_below p1 hbz, cell_below p2 hbz, cell_below p3 hbz, cell_below p4 hbz, cell_below p5 hbz, cell_below p6 hbz, cell_below p7 hbz, cell_below p8 hbz, cell_below p9 hbz, cell_below p10 hbz, cell_below p11 hbz, cell_below p12 hbz, cell_below p13 hbz, cell_below p14 hbz⟩); have E2 : Hid (u1.cell? ⟨b2, o2 + k * 15, none⟩ = some (.string (strOfNums g.name)) ∧ u1.cell? ⟨b2, o2 + k * 15 + 1, none⟩ = some (.string (strOfNums g.ty)) ∧ u1.cell? ⟨b2, o2 + k * 15 + 2, none⟩ = some (.string (strOfNums g.key)) ∧ u1.cell? ⟨b2, o2 + k * 15 + 3, none⟩ = some (.int .u64 g.num) ∧ u1.cell? ⟨b2, o2 + k * 15 + 4, none⟩ = some (.int .i64 g.label) ∧ u1.cell? ⟨b2, o2 + k * 15 + 5, none⟩ = some (.int .i64 g.packed) ∧ u1.cell? ⟨b2, o2 + k * 15 + 6, none⟩ = some (.int .i64 g.oneof) ∧ u1.cell? ⟨b2, o2 + k * 15 + 7, none⟩ = some (.int .i64 g.at1.1) ∧ u1.cell? ⟨b2, o2 + k * 15 + 8, none⟩ = some (.int .i64 g.at1.2) ∧ u1.cell? ⟨b2, o2 + k * 15 + 9, none⟩ = some (.int .i64 g.nat1.1) ∧ u1.cell? ⟨b2, o2 + k * 15 + 10, none⟩ = some (.int .i64 g.nat1.2) ∧ u1.cell? ⟨b2, o2 + k * 15 + 11, none⟩ = some (.int .i64 g.tat.1) ∧ u1.cell? ⟨b2, o2 + k * 15 + 12, none⟩ = some (.int .i64 g.tat.2) ∧ u1.cell? ⟨b2, o2 + k * 15 + 13, none⟩ = some (.int .i64 g.mat.1) ∧ u1.cell? ⟨b2, o2 + k * 15 + 14, none⟩ = some (.int .i64 g.mat.2)) := hid (by obtain ⟨p0, p1, p2, p3, p4, p5, p6, p7, p8, p9, p10, p11, p12, p13, p14⟩ := P2.out; exact ⟨cell_below p0 hbz, cell_below p1 hbz, cell_below p2 hbz, cell_below p3 hbz, cell_below p4 hbz, cell_below p5 hbz, cell_below p6 hbz, cell_below p7 hbz, cell_below p8 hbz, cell_below p9 hbz, cell_below p10 hbz, cell_below p11 hbz, cell_below p12 hbz, cell_below p13 hbz, cell_below p14 hbz⟩); have hbb : Hid (Below w.heap.size w u1) := hid (below_trans hbw0.out hbz); clear hbu hbz))
      go_wp2
      exact ⟨⟨k + 1, by omega, by go_num, hbb, Va, Vv⟩, by simp [intOf]; omega⟩
    · go_wp2
      go_loopw [6] (fun r wr => ∃ k : Nat, k ≤ no ∧ r = .int .i64 k ∧ Hid (Below w.heap.size w wr) ∧ Hid (Blk wr (w.heap.size) 102 #[.bool en, .string (strOfNums nm), .int .i64 al, .int .i64 ac, .slice fa1 nf fc1, .slice oa1 no oc1, .slice da1 nd dc1, .slice ra1 nr rc1, .slice ta1 ns tc1]) ∧ Hid (Blk wr (w.heap.size + 1) 74 #[.bool en, .string (strOfNums nm), .int .i64 al, .int .i64 ac, .slice fa2 nf fc2, .slice oa2 no oc2, .slice da2 nd dc2, .slice ra2 nr rc2, .slice ta2 ns tc2])) (fun r _ => no - (intOf r).toNat)
      case atStart => exact ⟨0, by omega, rfl, hbw0, BA0, BV0⟩
      case round =>
        obtain ⟨k, hk, rfl, hbw1, BA1, BV1⟩ := hrel
        have xa1 := BA1.out.cellF
        have xv1 := BV1.out.cellF
        have za1 := BA1.out.lt
        have zv1 := BV1.out.lt
        by_cases hlt : k < no
        · obtain ⟨g, hg⟩ : ∃ g, os[k]? = some g := ⟨_, List.getElem?_eq_getElem (by rw [hnno.out]; exact hlt)⟩
          obtain ⟨b1, o1, rfl, q1⟩ := rowAt cO_len (RowS.kept (show RowS w Z1 3 (.slice oa1 no oc1) os.length _ by rw [hnno.out]; exact R1o.out) hbw1.out) hg
          obtain ⟨b2, o2, rfl, q2⟩ := rowAt cO_len (RowS.kept (show RowS w Z2 3 (.slice oa2 no oc2) os.length _ by rw [hnno.out]; exact R2o.out) hbw1.out) hg
          have P1 : Hid (wr.cell? ⟨b1, o1 + k * 3, none⟩ = some (.string (strOfNums g.name)) ∧ wr.cell? ⟨b1, o1 + k * 3 + 1, none⟩ = some (.int .i64 g.at1.1) ∧ wr.cell? ⟨b1, o1 + k * 3 + 2, none⟩ = some (.int .i64 g.at1.2)) := hid ⟨q1 0 _ rfl, q1 1 _ rfl, q1 2 _ rfl⟩
          have P2 : Hid (wr.cell? ⟨b2, o2 + k * 3, none⟩ = some (.string (strOfNums g.name)) ∧ wr.cell? ⟨b2, o2 + k * 3 + 1, none⟩ = some (.int .i64 g.at1.1) ∧ wr.cell? ⟨b2, o2 + k * 3 + 2, none⟩ = some (.int .i64 g.at1.2)) := hid ⟨q2 0 _ rfl, q2 1 _ rfl, q2 2 _ rfl⟩
          clear q1 q2 hg
          have hki : (k : Int) < (no : Int) := by omega
          have hk0 : (0 : Int) ≤ (k : Int) := by omega
          go_wp2_with fail
          go_region_held3 (fun W => W.cell? ⟨w.heap.size, 5, none⟩ = some (.slice (some ⟨b1, o1, none⟩) no oc1) ∧ W.cell? ⟨w.heap.size + 1, 5, none⟩ = some (.slice (some ⟨b2, o2, none⟩) no oc2) ∧ (W.cell? ⟨b1, o1 + k * 3, none⟩ = some (.string (strOfNums g.name)) ∧ W.cell? ⟨b1, o1 + k * 3 + 1, none⟩ = some (.int .i64 g.at1.1) ∧ W.cell? ⟨b1, o1 + k * 3 + 2, none⟩ = some (.int .i64 g.at1.2)) ∧ (W.cell? ⟨b2, o2 + k * 3, none⟩ = some (.string (strOfNums g.name)) ∧ W.cell? ⟨b2, o2 + k * 3 + 1, none⟩ = some (.int .i64 g.at1.1) ∧ W.cell? ⟨b2, o2 + k * 3 + 2, none⟩ = some (.int .i64 g.at1.2))) (first | exact ⟨Va.out.cellF 5, Vv.out.cellF 5, E1.out, E2.out⟩ | exact ⟨(BA1.out.kept (below_drew1 _)).cellF 5, (BV1.out.kept (below_drew1 _)).cellF 5, P1.out, P2.out⟩) (first | (go_at_call 23; refine (placeYes g.at1.1 g.at1.2 _).mono ?_; rintro e u1 ⟨rfl, hbu⟩; have hbz := bl_then (below_drew1 wr) hbu; have Va : Hid (Blk u1 (w.heap.size) 102 #[.bool en, .string (strOfNums nm), .int .i64 al, .int .i64 ac, .slice fa1 nf fc1, .slice (some ⟨b1, o1, none⟩) no oc1, .slice da1 nd dc1, .slice ra1 nr rc1, .slice ta1 ns tc1]) := hid (BA1.out.kept hbz); have Vv : Hid (Blk u1 (w.heap.size + 1) 74 #[.bool en, .string (strOfNums nm), .int .i64 al, .int .i64 ac, .slice fa2 nf fc2, .slice (some ⟨b2, o2, none⟩) no oc2, .slice da2 nd dc2, .slice ra2 nr rc2, .slice ta2 ns tc2]) := hid (BV1.out.kept hbz); have E1 : Hid (u1.cell? ⟨b1, o1 + k * 3, none⟩ = some (.string (strOfNums g.name)) ∧ u1.cell? ⟨b1, o1 + k * 3 + 1, none⟩ = some (.int .i64 g.at1.1) ∧ u1.cell? ⟨b1, o1 + k * 3 + 2, none⟩ = some (.int .i64 g.at1.2)) := hid (by obtain ⟨p0, p1, p2⟩ := P1.out; exact ⟨cell_below p0 hbz, cell_below p1 hbz, cell_below p2 hbz⟩); have E2 : Hid (u1.cell? ⟨b2, o2 + k * 3, none⟩ = some (.string (strOfNums g.name)) ∧ u1.cell? ⟨b2, o2 + k * 3 + 1, none⟩ = some (.int .i64 g.at1.1) ∧ u1.cell? ⟨b2, o2 + k * 3 + 2, none⟩ = some (.int .i64 g.at1.2)) := hid (by obtain ⟨p0, p1, p2⟩ := P2.out; exact ⟨cell_below p0 hbz, cell_below p1 hbz, cell_below p2 hbz⟩); have hbb : Hid (Below w.heap.size w u1) := hid (below_trans hbw1.out hbz); clear hbu hbz))
          go_wp2
          exact ⟨⟨k + 1, by omega, by go_num, hbb, Va, Vv⟩, by simp [intOf]; omega⟩
        · go_wp2
          go_loopw [7] (fun r wr => ∃ k : Nat, k ≤ nr ∧ r = .int .i64 k ∧ Hid (Below w.heap.size w wr) ∧ Hid (Blk wr (w.heap.size) 102 #[.bool en, .string (strOfNums nm), .int .i64 al, .int .i64 ac, .slice fa1 nf fc1, .slice oa1 no oc1, .slice da1 nd dc1, .slice ra1 nr rc1, .slice ta1 ns tc1]) ∧ Hid (Blk wr (w.heap.size + 1) 74 #[.bool en, .string (strOfNums nm), .int .i64 al, .int .i64 ac, .slice fa2 nf fc2, .slice oa2 no oc2, .slice da2 nd dc2, .slice ra2 nr rc2, .slice ta2 ns tc2])) (fun r _ => nr - (intOf r).toNat)
          case atStart => exact ⟨0, by omega, rfl, hbw1, BA1, BV1⟩
          case round =>
            obtain ⟨k, hk, rfl, hbw2, BA2, BV2⟩ := hrel
            have xa2 := BA2.out.cellF
            have xv2 := BV2.out.cellF
            have za2 := BA2.out.lt
            have zv2 := BV2.out.lt
            by_cases hlt : k < nr
            · obtain ⟨g, hg⟩ : ∃ g, rs[k]? = some g := ⟨_, List.getElem?_eq_getElem (by rw [hnnr.out]; exact hlt)⟩
              obtain ⟨b1, o1, rfl, q1⟩ := rowAt cR_len (RowS.kept (show RowS w Z1 4 (.slice ra1 nr rc1) rs.length _ by rw [hnnr.out]; exact R1r.out) hbw2.out) hg
              obtain ⟨b2, o2, rfl, q2⟩ := rowAt cR_len (RowS.kept (show RowS w Z2 4 (.slice ra2 nr rc2) rs.length _ by rw [hnnr.out]; exact R2r.out) hbw2.out) hg
              have P1 : Hid (wr.cell? ⟨b1, o1 + k * 4, none⟩ = some (.int .u64 g.low) ∧ wr.cell? ⟨b1, o1 + k * 4 + 1, none⟩ = some (.int .u64 g.high) ∧ wr.cell? ⟨b1, o1 + k * 4 + 2, none⟩ = some (.int .i64 g.at1.1) ∧ wr.cell? ⟨b1, o1 + k * 4 + 3, none⟩ = some (.int .i64 g.at1.2)) := hid ⟨q1 0 _ rfl, q1 1 _ rfl, q1 2 _ rfl, q1 3 _ rfl⟩
              have P2 : Hid (wr.cell? ⟨b2, o2 + k * 4, none⟩ = some (.int .u64 g.low) ∧ wr.cell? ⟨b2, o2 + k * 4 + 1, none⟩ = some (.int .u64 g.high) ∧ wr.cell? ⟨b2, o2 + k * 4 + 2, none⟩ = some (.int .i64 g.at1.1) ∧ wr.cell? ⟨b2, o2 + k * 4 + 3, none⟩ = some (.int .i64 g.at1.2)) := hid ⟨q2 0 _ rfl, q2 1 _ rfl, q2 2 _ rfl, q2 3 _ rfl⟩
              clear q1 q2 hg
              have hki : (k : Int) < (nr : Int) := by omega
              have hk0 : (0 : Int) ≤ (k : Int) := by omega
              go_wp2_with fail
              go_region_held3 (fun W => W.cell? ⟨w.heap.size, 7, none⟩ = some (.slice (some ⟨b1, o1, none⟩) nr rc1) ∧ W.cell? ⟨w.heap.size + 1, 7, none⟩ = some (.slice (some ⟨b2, o2, none⟩) nr rc2) ∧ (W.cell? ⟨b1, o1 + k * 4, none⟩ = some (.int .u64 g.low) ∧ W.cell? ⟨b1, o1 + k * 4 + 1, none⟩ = some (.int .u64 g.high) ∧ W.cell? ⟨b1, o1 + k * 4 + 2, none⟩ = some (.int .i64 g.at1.1) ∧ W.cell? ⟨b1, o1 + k * 4 + 3, none⟩ = some (.int .i64 g.at1.2)) ∧ (W.cell? ⟨b2, o2 + k * 4, none⟩ = some (.int .u64 g.low) ∧ W.cell? ⟨b2, o2 + k * 4 + 1, none⟩ = some (.int .u64 g.high) ∧ W.cell? ⟨b2, o2 + k * 4 + 2, none⟩ = some (.int .i64 g.at1.1) ∧ W.cell? ⟨b2, o2 + k * 4 + 3, none⟩ = some (.int .i64 g.at1.2))) (first | exact ⟨Va.out.cellF 7, Vv.out.cellF 7, E1.out, E2.out⟩ | exact ⟨(BA2.out.kept (below_drew1 _)).cellF 7, (BV2.out.kept (below_drew1 _)).cellF 7, P1.out, P2.out⟩) (first | (go_at_call 23; refine (placeYes g.at1.1 g.at1.2 _).mono ?_; rintro e u1 ⟨rfl, hbu⟩; have hbz := bl_then (below_drew1 wr) hbu; have Va : Hid (Blk u1 (w.heap.size) 102 #[.bool en, .string (strOfNums nm), .int .i64 al, .int .i64 ac, .slice fa1 nf fc1, .slice oa1 no oc1, .slice da1 nd dc1, .slice (some ⟨b1, o1, none⟩) nr rc1, .slice ta1 ns tc1]) := hid (BA2.out.kept hbz); have Vv : Hid (Blk u1 (w.heap.size + 1) 74 #[.bool en, .string (strOfNums nm), .int .i64 al, .int .i64 ac, .slice fa2 nf fc2, .slice oa2 no oc2, .slice da2 nd dc2, .slice (some ⟨b2, o2, none⟩) nr rc2, .slice ta2 ns tc2]) := hid (BV2.out.kept hbz); have E1 : Hid (u1.cell? ⟨b1, o1 + k * 4, none⟩ = some (.int .u64 g.low) ∧ u1.cell? ⟨b1, o1 + k * 4 + 1, none⟩ = some (.int .u64 g.high) ∧ u1.cell? ⟨b1, o1 + k * 4 + 2, none⟩ = some (.int .i64 g.at1.1) ∧ u1.cell? ⟨b1, o1 + k * 4 + 3, none⟩ = some (.int .i64 g.at1.2)) := hid (by obtain ⟨p0, p1, p2, p3⟩ := P1.out; exact ⟨cell_below p0 hbz, cell_below p1 hbz, cell_below p2 hbz, cell_below p3 hbz⟩); have E2 : Hid (u1.cell? ⟨b2, o2 + k * 4, none⟩ = some (.int .u64 g.low) ∧ u1.cell? ⟨b2, o2 + k * 4 + 1, none⟩ = some (.int .u64 g.high) ∧ u1.cell? ⟨b2, o2 + k * 4 + 2, none⟩ = some (.int .i64 g.at1.1) ∧ u1.cell? ⟨b2, o2 + k * 4 + 3, none⟩ = some (.int .i64 g.at1.2)) := hid (by obtain ⟨p0, p1, p2, p3⟩ := P2.out; exact ⟨cell_below p0 hbz, cell_below p1 hbz, cell_below p2 hbz, cell_below p3 hbz⟩); have hbb : Hid (Below w.heap.size w u1) := hid (below_trans hbw2.out hbz); clear hbu hbz))
              go_wp2
              exact ⟨⟨k + 1, by omega, by go_num, hbb, Va, Vv⟩, by simp [intOf]; omega⟩
            · go_wp2
              go_loopw [8] (fun r wr => ∃ k : Nat, k ≤ ns ∧ r = .int .i64 k ∧ Hid (Below w.heap.size w wr) ∧ Hid (Blk wr (w.heap.size) 102 #[.bool en, .string (strOfNums nm), .int .i64 al, .int .i64 ac, .slice fa1 nf fc1, .slice oa1 no oc1, .slice da1 nd dc1, .slice ra1 nr rc1, .slice ta1 ns tc1]) ∧ Hid (Blk wr (w.heap.size + 1) 74 #[.bool en, .string (strOfNums nm), .int .i64 al, .int .i64 ac, .slice fa2 nf fc2, .slice oa2 no oc2, .slice da2 nd dc2, .slice ra2 nr rc2, .slice ta2 ns tc2])) (fun r _ => ns - (intOf r).toNat)
              case atStart => exact ⟨0, by omega, rfl, hbw2, BA2, BV2⟩
              case round =>
                obtain ⟨k, hk, rfl, hbw3, BA3, BV3⟩ := hrel
                have xa3 := BA3.out.cellF
                have xv3 := BV3.out.cellF
                have za3 := BA3.out.lt
                have zv3 := BV3.out.lt
                by_cases hlt : k < ns
                · obtain ⟨g, hg⟩ : ∃ g, ss[k]? = some g := ⟨_, List.getElem?_eq_getElem (by rw [hnns.out]; exact hlt)⟩
                  obtain ⟨b1, o1, rfl, q1⟩ := rowAt cS_len (RowS.kept (show RowS w Z1 6 (.slice ta1 ns tc1) ss.length _ by rw [hnns.out]; exact R1s.out) hbw3.out) hg
                  obtain ⟨b2, o2, rfl, q2⟩ := rowAt cS_len (RowS.kept (show RowS w Z2 6 (.slice ta2 ns tc2) ss.length _ by rw [hnns.out]; exact R2s.out) hbw3.out) hg
                  have P1 : Hid (wr.cell? ⟨b1, o1 + k * 6, none⟩ = some (.string (strOfNums g.name)) ∧ wr.cell? ⟨b1, o1 + k * 6 + 1, none⟩ = some (.int .u64 g.num) ∧ wr.cell? ⟨b1, o1 + k * 6 + 2, none⟩ = some (.int .i64 g.at1.1) ∧ wr.cell? ⟨b1, o1 + k * 6 + 3, none⟩ = some (.int .i64 g.at1.2) ∧ wr.cell? ⟨b1, o1 + k * 6 + 4, none⟩ = some (.int .i64 g.nat1.1) ∧ wr.cell? ⟨b1, o1 + k * 6 + 5, none⟩ = some (.int .i64 g.nat1.2)) := hid ⟨q1 0 _ rfl, q1 1 _ rfl, q1 2 _ rfl, q1 3 _ rfl, q1 4 _ rfl, q1 5 _ rfl⟩
                  have P2 : Hid (wr.cell? ⟨b2, o2 + k * 6, none⟩ = some (.string (strOfNums g.name)) ∧ wr.cell? ⟨b2, o2 + k * 6 + 1, none⟩ = some (.int .u64 g.num) ∧ wr.cell? ⟨b2, o2 + k * 6 + 2, none⟩ = some (.int .i64 g.at1.1) ∧ wr.cell? ⟨b2, o2 + k * 6 + 3, none⟩ = some (.int .i64 g.at1.2) ∧ wr.cell? ⟨b2, o2 + k * 6 + 4, none⟩ = some (.int .i64 g.nat1.1) ∧ wr.cell? ⟨b2, o2 + k * 6 + 5, none⟩ = some (.int .i64 g.nat1.2)) := hid ⟨q2 0 _ rfl, q2 1 _ rfl, q2 2 _ rfl, q2 3 _ rfl, q2 4 _ rfl, q2 5 _ rfl⟩
                  clear q1 q2 hg
                  have hki : (k : Int) < (ns : Int) := by omega
                  have hk0 : (0 : Int) ≤ (k : Int) := by omega
                  obtain ⟨p0, p1, p2, p3, p4, p5⟩ := P1.out
                  obtain ⟨s0, s1, s2, s3, s4, s5⟩ := P2.out
                  have zb1 := World.block_lt_of_cell? _ _ p0
                  have zb2 := World.block_lt_of_cell? _ _ s0
                  go_wp2_with fail
                  refine (placeYes g.at1.1 g.at1.2 _).mono ?_
                  rintro e u1 ⟨rfl, hbu⟩
                  have C1 : Blk u1 wr.heap.size 154 #[.string (strOfNums g.name), .int .u64 g.num, .int .i64 g.at1.1, .int .i64 g.at1.2, .int .i64 g.nat1.1, .int .i64 g.nat1.2] := Blk.kept ((Blk.newAt (w := wr) rfl).kept (below_alloc _)) hbu
                  have C2 : Blk u1 (wr.heap.size + 1) 126 #[.string (strOfNums g.name), .int .u64 g.num, .int .i64 g.at1.1, .int .i64 g.at1.2, .int .i64 g.nat1.1, .int .i64 g.nat1.2] := Blk.kept (Blk.newAt (by simp)) hbu
                  have hbz := hid (bl_then (by exact blBy) hbu : Below wr.heap.size wr u1)
                  have hsu := hbu.size
                  try simp at hsu
                  clear hbu
                  have xc1 := C1.cellF
                  have xc2 := C2.cellF
                  have zc1 := C1.lt
                  have zc2 := C2.lt
                  go_wp2_with fail
                  refine (placeYes g.nat1.1 g.nat1.2 _).mono ?_
                  rintro e u2 ⟨rfl, hbu⟩
                  have hby := hid (bl_then hbz.out hbu)
                  have Va : Hid (Blk u2 (w.heap.size) 102 #[.bool en, .string (strOfNums nm), .int .i64 al, .int .i64 ac, .slice fa1 nf fc1, .slice oa1 no oc1, .slice da1 nd dc1, .slice ra1 nr rc1, .slice (some ⟨b1, o1, none⟩) ns tc1]) := hid (BA3.out.kept hby.out)
                  have Vv : Hid (Blk u2 (w.heap.size + 1) 74 #[.bool en, .string (strOfNums nm), .int .i64 al, .int .i64 ac, .slice fa2 nf fc2, .slice oa2 no oc2, .slice da2 nd dc2, .slice ra2 nr rc2, .slice (some ⟨b2, o2, none⟩) ns tc2]) := hid (BV3.out.kept hby.out)
                  have hbb : Hid (Below w.heap.size w u2) := hid (below_trans hbw3.out hby.out)
                  clear hbu
                  go_wp2
                  exact ⟨⟨k + 1, by omega, by go_num, hbb, Va, Vv⟩, by simp [intOf]; omega⟩
                · go_wp2_with fail
                  refine (HC.out _ (by have := hbw3.out; exact blBy)).mono ?_
                  rintro e u9 ⟨rfl, hb9⟩
                  have hB9 : Hid (Below w.heap.size w u9) := hid (bl_then (by have := hbw3.out; exact blBy) hb9)
                  clear hb9
                  go_wp2
                  go_ret
                  exact ⟨rfl, hB9.out⟩
theorem declY : ∀ n, DeclY n
  | 0 => fun _ _ _ _ _ _ h => h.elim
  | n + 1 => declY_succ (declsY_of (declY n))
theorem sameY {n : Nat} (x y : DV) (w : World) (Z1 Z2 : Nat → Prop) (he : x.d = y.d) (hx : RD (n + 1) w Z1 x) (hy : RD (n + 1) w Z2 y) : Calls Tryz.prog 9 #[.agg #[x.o, x.dd], .agg #[y.o, y.dd]] w fun e w' => e = .returned (.bool true) ∧ Below w.heap.size w w' := by
  obtain ⟨xd, xf, xo, xdd, xr, xs⟩ := x
  obtain ⟨yd, yf, yo, ydd, yr, ys⟩ := y
  dsimp only at he
  subst he
  obtain ⟨_, r1o, _, _, dv, e1, r1d, g1⟩ := hx
  obtain ⟨_, r2o, _, _, dw, e2, r2d, g2⟩ := hy
  dsimp only at r1o r1d r2o r2d e1 e2 ⊢
  have hdl : dw.length = dv.length := by have := congrArg List.length (e2.trans e1.symm); simpa using this
  obtain ⟨en, nm, ⟨al, ac⟩, fs, os, ds, rs, ss⟩ := xd
  dsimp only at r1o r1d r2o r2d e1 e2
  obtain ⟨oa1, oc1, rfl, mo1⟩ : ∃ a c, xo = .slice a os.length c ∧ os.length ≤ 9223372036854775807 := rowS_sl r1o
  obtain ⟨oa2, oc2, rfl, mo2⟩ : ∃ a c, yo = .slice a os.length c ∧ os.length ≤ 9223372036854775807 := rowS_sl r2o
  obtain ⟨da1, dc1, rfl, md1⟩ : ∃ a c, xdd = .slice a dv.length c ∧ dv.length ≤ 9223372036854775807 := rowS_sl r1d
  obtain ⟨da2, dc2, rfl, md2⟩ : ∃ a c, ydd = .slice a dw.length c ∧ dw.length ≤ 9223372036854775807 := rowS_sl r2d
  have HC := hid (fun W (hb : Below w.heap.size w W) => declsY_of (declY n) dv dw da1 dc1 da2 dc2 W Z1 Z2 (e1.trans e2.symm) (r1d.kept hb) (r2d.kept hb) (fun x hx => (g1 x hx).kept hb) (fun x hx => (g2 x hx).kept hb))
  rw [hdl] at HC ⊢
  have R1o := hid r1o
  have R2o := hid r2o
  clear r1o r1d r2o r2d e1 e2 g1 g2 hdl md2 mo2
  generalize hnno : os.length = no at *
  replace hnno := hid hnno
  generalize dv.length = nd at *
  have hb0 : Hid (Below w.heap.size w w) := hid (Below.refl _ _)
  go_enter Tryz.func9, Tryz.ntmps9
  go_wp2
  go_loopw [5] (fun r wr => ∃ k : Nat, k ≤ no ∧ r = .int .i64 k ∧ Hid (Below w.heap.size w wr) ∧ Hid (Blk wr (w.heap.size) 25 #[.slice oa1 no oc1, .slice da1 nd dc1]) ∧ Hid (Blk wr (w.heap.size + 1) 34 #[.slice oa2 no oc2, .slice da2 nd dc2])) (fun r _ => no - (intOf r).toNat)
  case atStart => exact ⟨0, by omega, rfl, hid (by have := hb0.out; exact blBy), hid ((Blk.newAt (w := w) rfl).kept (below_alloc _)), hid (Blk.newAt (by simp))⟩
  case round =>
    obtain ⟨k, hk, rfl, hbw0, BA0, BV0⟩ := hrel
    have xa0 := BA0.out.cellF
    have xv0 := BV0.out.cellF
    have za0 := BA0.out.lt
    have zv0 := BV0.out.lt
    by_cases hlt : k < no
    · obtain ⟨g, hg⟩ : ∃ g, os[k]? = some g := ⟨_, List.getElem?_eq_getElem (by rw [hnno.out]; exact hlt)⟩
      obtain ⟨b1, o1, rfl, q1⟩ := rowAt cO_len (RowS.kept (show RowS w Z1 3 (.slice oa1 no oc1) os.length _ by rw [hnno.out]; exact R1o.out) hbw0.out) hg
      obtain ⟨b2, o2, rfl, q2⟩ := rowAt cO_len (RowS.kept (show RowS w Z2 3 (.slice oa2 no oc2) os.length _ by rw [hnno.out]; exact R2o.out) hbw0.out) hg
      have P1 : Hid (wr.cell? ⟨b1, o1 + k * 3, none⟩ = some (.string (strOfNums g.name)) ∧ wr.cell? ⟨b1, o1 + k * 3 + 1, none⟩ = some (.int .i64 g.at1.1) ∧ wr.cell? ⟨b1, o1 + k * 3 + 2, none⟩ = some (.int .i64 g.at1.2)) := hid ⟨q1 0 _ rfl, q1 1 _ rfl, q1 2 _ rfl⟩
      have P2 : Hid (wr.cell? ⟨b2, o2 + k * 3, none⟩ = some (.string (strOfNums g.name)) ∧ wr.cell? ⟨b2, o2 + k * 3 + 1, none⟩ = some (.int .i64 g.at1.1) ∧ wr.cell? ⟨b2, o2 + k * 3 + 2, none⟩ = some (.int .i64 g.at1.2)) := hid ⟨q2 0 _ rfl, q2 1 _ rfl, q2 2 _ rfl⟩
      clear q1 q2 hg
      have hki : (k : Int) < (no : Int) := by omega
      have hk0 : (0 : Int) ≤ (k : Int) := by omega
      go_wp2_with fail
      go_region_held3 (fun W => W.cell? ⟨w.heap.size, 0, none⟩ = some (.slice (some ⟨b1, o1, none⟩) no oc1) ∧ W.cell? ⟨w.heap.size + 1, 0, none⟩ = some (.slice (some ⟨b2, o2, none⟩) no oc2) ∧ (W.cell? ⟨b1, o1 + k * 3, none⟩ = some (.string (strOfNums g.name)) ∧ W.cell? ⟨b1, o1 + k * 3 + 1, none⟩ = some (.int .i64 g.at1.1) ∧ W.cell? ⟨b1, o1 + k * 3 + 2, none⟩ = some (.int .i64 g.at1.2)) ∧ (W.cell? ⟨b2, o2 + k * 3, none⟩ = some (.string (strOfNums g.name)) ∧ W.cell? ⟨b2, o2 + k * 3 + 1, none⟩ = some (.int .i64 g.at1.1) ∧ W.cell? ⟨b2, o2 + k * 3 + 2, none⟩ = some (.int .i64 g.at1.2))) (first | exact ⟨Va.out.cellF 0, Vv.out.cellF 0, E1.out, E2.out⟩ | exact ⟨(BA0.out.kept (below_drew1 _)).cellF 0, (BV0.out.kept (below_drew1 _)).cellF 0, P1.out, P2.out⟩) (first | (go_at_call 23; refine (placeYes g.at1.1 g.at1.2 _).mono ?_; rintro e u1 ⟨rfl, hbu⟩; have hbz := bl_then (below_drew1 wr) hbu; have Va : Hid (Blk u1 (w.heap.size) 25 #[.slice (some ⟨b1, o1, none⟩) no oc1, .slice da1 nd dc1]) := hid (BA0.out.kept hbz); have Vv : Hid (Blk u1 (w.heap.size + 1) 34 #[.slice (some ⟨b2, o2, none⟩) no oc2, .slice da2 nd dc2]) := hid (BV0.out.kept hbz); have E1 : Hid (u1.cell? ⟨b1, o1 + k * 3, none⟩ = some (.string (strOfNums g.name)) ∧ u1.cell? ⟨b1, o1 + k * 3 + 1, none⟩ = some (.int .i64 g.at1.1) ∧ u1.cell? ⟨b1, o1 + k * 3 + 2, none⟩ = some (.int .i64 g.at1.2)) := hid (by obtain ⟨p0, p1, p2⟩ := P1.out; exact ⟨cell_below p0 hbz, cell_below p1 hbz, cell_below p2 hbz⟩); have E2 : Hid (u1.cell? ⟨b2, o2 + k * 3, none⟩ = some (.string (strOfNums g.name)) ∧ u1.cell? ⟨b2, o2 + k * 3 + 1, none⟩ = some (.int .i64 g.at1.1) ∧ u1.cell? ⟨b2, o2 + k * 3 + 2, none⟩ = some (.int .i64 g.at1.2)) := hid (by obtain ⟨p0, p1, p2⟩ := P2.out; exact ⟨cell_below p0 hbz, cell_below p1 hbz, cell_below p2 hbz⟩); have hbb : Hid (Below w.heap.size w u1) := hid (below_trans hbw0.out hbz); clear hbu hbz))
      go_wp2
      exact ⟨⟨k + 1, by omega, by go_num, hbb, Va, Vv⟩, by simp [intOf]; omega⟩
    · go_wp2_with fail
      refine (HC.out _ (by have := hbw0.out; exact blBy)).mono ?_
      rintro e u9 ⟨rfl, hb9⟩
      have hB9 : Hid (Below w.heap.size w u9) := hid (bl_then (by have := hbw0.out; exact blBy) hb9)
      clear hb9
      go_wp2
      go_ret
      exact ⟨rfl, hB9.out⟩
theorem hexR (c : Int) (w : World) (h0 : 0 ≤ c) (h1 : c ≤ 255) : Calls Tryz.prog 80 #[.int .u8 c] w fun e w' => e = .returned (.int .i64 (hx c)) ∧ w = w' := by
  by_cases d1 : 48 ≤ c ∧ c ≤ 57
  · have e : Hid (c - 48 = hx c) := hid (by unfold hx; rw [if_pos d1])
    obtain ⟨x1, x2⟩ := d1
    go_enter Tryz.func80, Tryz.ntmps80
    go_wp2
    go_ret
    exact ⟨ret_int e.out, rfl⟩
  by_cases d2 : 97 ≤ c ∧ c ≤ 102
  · have e : Hid (c - 87 = hx c) := hid (by unfold hx; rw [if_neg d1, if_pos d2])
    obtain ⟨x1, x2⟩ := d2
    clear d1
    go_enter Tryz.func80, Tryz.ntmps80
    go_wp2
    go_ret
    exact ⟨ret_int e.out, rfl⟩
  by_cases d3 : 65 ≤ c ∧ c ≤ 70
  · have e : Hid (c - 55 = hx c) := hid (by unfold hx; rw [if_neg d1, if_neg d2, if_pos d3])
    obtain ⟨x1, x2⟩ := d3
    clear d1 d2
    go_enter Tryz.func80, Tryz.ntmps80
    go_wp2
    go_ret
    exact ⟨ret_int e.out, rfl⟩
  · have e : Hid (-1 = hx c) := hid (by unfold hx; rw [if_neg d1, if_neg d2, if_neg d3])
    go_enter Tryz.func80, Tryz.ntmps80
    go_wp2
    all_goals first
      | omega
      | (go_ret; exact ⟨ret_int e.out, rfl⟩)
theorem pt_drop {P : List Int} {k : Nat} (h : k < P.length) : qpart (P.drop k) = if P[k]?.getD 0 = 34 ∨ P[k]?.getD 0 = 10 then (0, 0) else if P[k]?.getD 0 = 92 then sgP (P.drop (k + 1)) else (P[k]?.getD 0, 1) := by
  rw [drop_at h, qpart]
theorem sgP_drop {P : List Int} {k : Nat} (h : k < P.length) : sgP (P.drop k) = if P[k]?.getD 0 = 34 ∨ P[k]?.getD 0 = 92 then (P[k]?.getD 0, 2) else if P[k]?.getD 0 = 110 then (10, 2) else if P[k]?.getD 0 = 116 then (9, 2) else if P[k]?.getD 0 = 114 then (13, 2) else if P[k]?.getD 0 = 120 then dgP (P.drop (k + 1)) else (0, 0) := by
  rw [drop_at h, sgP]
theorem sgP_end {P : List Int} {k : Nat} (h : ¬ k < P.length) : sgP (P.drop k) = (0, 0) := by
  rw [List.drop_eq_nil_of_le (by omega)]; rfl
theorem dgP_drop {P : List Int} {k : Nat} (h : k + 1 < P.length) : dgP (P.drop k) = if hx (P[k]?.getD 0) < 0 ∨ hx (P[k + 1]?.getD 0) < 0 then (0, 0) else (hx (P[k]?.getD 0) * 16 + hx (P[k + 1]?.getD 0), 4) := by
  rw [drop_at (by omega), drop_at h]
  rfl
theorem dgP_end {P : List Int} {k : Nat} (h : ¬ k + 1 < P.length) : dgP (P.drop k) = (0, 0) := by
  have : (P.drop k).length < 2 := by simp; omega
  match hd : P.drop k with
  | [] => rfl
  | [_] => rfl
  | _ :: _ :: _ => rw [hd] at this; simp at this; omega
theorem parts_at {xs : List Int} {m k : Nat} (h : xs.length = m + 2) (hk : k < m) : xs[k + 1]?.getD 0 = (parts xs)[k]?.getD 0 := by
  unfold parts
  rw [List.getElem?_take_of_lt (by omega), List.getElem?_drop, Nat.add_comm 1 k]
/-- What the callers of the document's Unquote are told. -/
def RefUnq (w : World) (g : Option (List Int)) (e : Ending) (w' : World) : Prop := match g with
  | none => e = .returned (.tuple #[.slice none 0 0, .bool false]) ∧ Below w.heap.size w w'
  | some ys => ∃ a c, e = .returned (.tuple #[.slice a ys.length c, .bool true]) ∧ Reads w' a ys.length c ys ∧ Below w.heap.size w w' ∧ ∀ x, a = some x → w.heap.size ≤ x.block
/-- How far the loop is: the place, the bytes so far. -/
def Unq (w : World) (xs : List Int) (m : Nat) (o r : Value) (wr : World) : Prop := ∃ (k f n : Nat) (acc : List Int), k ≤ m ∧ r = .int .i64 ((k : Int) + 1) ∧ n ≤ k ∧ m ≤ k + f ∧ Hid (acc.length = n) ∧ Hid (wr.ownsRow w.heap.size 5 1 o n (acc.map (Value.int .u8))) ∧ Hid (∀ x ∈ acc, 0 ≤ x ∧ x ≤ 255) ∧ Hid (uqF f ((parts xs).drop k) acc = uq xs) ∧ Hid (Below w.heap.size w wr)
theorem unq_next {w wr w' : World} {xs acc : List Int} {m k f n sz : Nat} {o o' : Value} {x : Int} {r : Value} (hk : k < m) (hn : n ≤ k) (hf : m ≤ k + (f + 1)) (HN : acc.length = n) (HA : ∀ x ∈ acc, 0 ≤ x ∧ x ≤ 255) (HPl : (parts xs).length = m) (HPb : ∀ x ∈ parts xs, 0 ≤ x ∧ x ≤ 255)
    (HQ : uqF (f + 1) ((parts xs).drop k) acc = uq xs) (HO : wr.ownsRow w.heap.size 5 1 o n (acc.map (Value.int .u8))) (HB : Below w.heap.size w wr) (hp : qpart ((parts xs).drop k) = (x, sz)) (hz : sz ≠ 0)
    (ho' : w'.ownsRow w.heap.size 5 1 o' (n + 1) (acc.map (Value.int .u8) ++ [.int .u8 x])) (hg' : Grow wr w' o o') (hr : r = .int .i64 (((k + sz : Nat) : Int) + 1)) : Unq w xs m o' r w' := by
  have hb := pt_both (l := (parts xs).drop k) (fun x hx => HPb x (List.mem_of_mem_drop hx))
  rw [hp, List.length_drop, HPl] at hb
  refine ⟨k + sz, f, n + 1, acc ++ [x], by simp only at hb; omega, hr, by omega, by omega, hid (by rw [List.length_append, HN]; rfl), hid (by rw [List.map_append]; exact ho'), hid (fun y hy => ?_), hid ?_, hid (HB.trans (hg'.below HB.size (fun j hj => (HO.lt j hj).1)))⟩
  · rcases List.mem_append.1 hy with hy | hy
    · exact HA y hy
    · simp at hy; subst hy; exact hb.1
  · have := uq_step (P := parts xs) (k := k) (f := f) (acc := acc) (by omega) (by rw [hp]; exact hz)
    rw [hp] at this
    rw [← HQ, this]
theorem unq_none {w wr : World} {xs acc : List Int} {m k f : Nat} {x : Int} (hk : k < m) (HPl : (parts xs).length = m) (HQ : uqF (f + 1) ((parts xs).drop k) acc = uq xs) (HB : Below w.heap.size w wr) (hp : qpart ((parts xs).drop k) = (x, 0)) :
    RefUnq w (uq xs) (.returned (.tuple #[.slice none 0 0, .bool false])) wr := by
  rw [← HQ, uq_bad (by omega) (by rw [hp])]
  exact ⟨rfl, HB⟩
set_option maxRecDepth 100000 in
set_option maxHeartbeats 4000000 in
theorem refUnqLoop (xs : List Int) (n0 m : Nat) (w : World) (hb : ∀ x ∈ xs, 0 ≤ x ∧ x ≤ 255) (hn : xs.length = n0) (hlen : n0 = m + 2) (hm : m + 2 ≤ 4194304) (h0 : xs[0]?.getD 0 = 34) (h1 : xs[m + 1]?.getD 0 = 34) :
    Calls Tryz.prog 44 #[.string (strOfNums xs)] w fun e w' => RefUnq w (uq xs) e w' := by
  have hs : (strOfNums xs).size = n0 := by rw [strOfNums_size, hn]
  have hpl : (parts xs).length = m := by rw [parts_len, hn, hlen]; rfl
  have i0 : ∀ (k : IntKind) (W : World), (Instr.index 9 (.string (strOfNums xs)) (.int k 0)).run Tryz.prog W = .ok (.int .u8 34) W := fun k W => by rw [← h0]; exact index_str hb 0 (by omega) k W
  have i1 : ∀ (k : IntKind) (W : World), (Instr.index 9 (.string (strOfNums xs)) (.int k ((n0 : Int) - 1))).run Tryz.prog W = .ok (.int .u8 34) W := fun k W => by
    have := index_str hb (m + 1) (by omega) k W
    rw [h1, show ((m + 1 : Nat) : Int) = (n0 : Int) - 1 by omega] at this
    exact this
  have HIx : Hid (∀ (j : Nat), j < m → ∀ (p : Int), p = (j : Int) + 1 → ∀ (k : IntKind) (W : World), (Instr.index 9 (.string (strOfNums xs)) (.int k p)).run Tryz.prog W = .ok (.int .u8 ((parts xs)[j]?.getD 0)) W) := hid fun j hj p hp k W => by
    have := index_str hb (j + 1) (by omega) k W
    rw [parts_at (hn.trans hlen) hj] at this
    rw [hp]
    exact this
  have HU : Hid (uqF m (parts xs) [] = uq xs) := hid (by
    unfold uq
    rw [if_neg ?_, hpl]
    rw [List.getD_eq_getElem?_getD, List.getD_eq_getElem?_getD, hn, hlen, h0, show m + 2 - 1 = m + 1 by omega, h1]
    simp)
  have HPb := hid (parts_bd hb)
  have HGet : Hid (∀ j : Nat, (0 : Int) ≤ (parts xs)[j]?.getD 0 ∧ (parts xs)[j]?.getD 0 ≤ 255) := hid fun j => by have := bd_get HPb.out j; rwa [List.getD_eq_getElem?_getD] at this
  have hm1 : (n0 : Int) ≤ 4194304 := by omega
  have hm2 : (2 : Int) ≤ (n0 : Int) := by omega
  have hend : (n0 : Int) - 1 = (m : Int) + 1 := by omega
  have HPl := hid hpl
  have Hend := hid hend
  have hm3 : (m : Int) ≤ 4194304 := by omega
  clear hb hlen h0 h1 hpl hn hm hend
  go_enter Tryz.func44, Tryz.ntmps44
  go_wp2
  rw [Hend.out]
  go_loopw [4, 6] (fun o r wr => Unq w xs m o r wr) (fun _ r _ => m + 1 - (intOf r).toNat)
  case atStart => exact ⟨0, m, 0, [], by omega, rfl, by omega, by omega, hid rfl, hid (World.ownsRow_nil _ _ _ _), hid (by simp), hid HU.out, hid (Below.refl _ _)⟩
  case round =>
    obtain ⟨k, f, n, acc, hk, rfl, hn, hf, HN, HO, HA, HQ, HB⟩ := hrel
    by_cases hlt : k < m
    · obtain ⟨f, rfl⟩ : ∃ f', f = f' + 1 := ⟨f - 1, by omega⟩
      have HPt := hid (pt_drop (P := parts xs) (k := k) (by rw [HPl.out]; exact hlt))
      have hcb := HGet.out k
      have ix : ∀ (kk : IntKind) (W : World), (Instr.index 9 (.string (strOfNums xs)) (.int kk ((k : Int) + 1))).run Tryz.prog W = .ok (.int .u8 ((parts xs)[k]?.getD 0)) W := HIx.out k hlt _ rfl
      obtain ⟨c, hcc⟩ : ∃ c, (parts xs)[k]?.getD 0 = c := ⟨_, rfl⟩
      rw [hcc] at ix hcb HPt
      have hb0 := hcb.1
      have hb1 := hcb.2
      clear hcc hcb
      by_cases c34 : c = 34
      · subst c34
        have HF := hid (unq_none (x := 0) hlt HPl.out HQ.out HB.out (by rw [HPt.out]; rfl))
        clear HPt
        go_wp2
        try rw [Exit.noGoto_ret]
        go_ret2
        exact HF.out
      by_cases c10 : c = 10
      · subst c10
        have HF := hid (unq_none (x := 0) hlt HPl.out HQ.out HB.out (by rw [HPt.out]; rfl))
        clear HPt
        go_wp2
        try rw [Exit.noGoto_ret]
        go_ret2
        exact HF.out
      have e34 : (c == 34) = false := by simpa using c34
      have e10 : (c == 10) = false := by simpa using c10
      by_cases c92 : c = 92
      · subst c92
        have HPs : Hid (qpart ((parts xs).drop k) = sgP ((parts xs).drop (k + 1))) := hid (by rw [HPt.out]; rfl)
        clear HPt
        by_cases hlast : k + 1 < m
        · have HSg := hid (sgP_drop (P := parts xs) (k := k + 1) (by rw [HPl.out]; exact hlast))
          have hdb := HGet.out (k + 1)
          have iy : ∀ (kk : IntKind) (W : World), (Instr.index 9 (.string (strOfNums xs)) (.int kk ((k : Int) + 1 + 1))).run Tryz.prog W = .ok (.int .u8 ((parts xs)[k + 1]?.getD 0)) W := HIx.out (k + 1) hlast _ (by omega)
          obtain ⟨d, hdd⟩ : ∃ d, (parts xs)[k + 1]?.getD 0 = d := ⟨_, rfl⟩
          rw [hdd] at iy hdb HSg
          have hd0 := hdb.1
          have hd1 := hdb.2
          have hki : (k : Int) + 1 < (m : Int) := by omega
          clear hdd hdb
          by_cases d34 : d = 34
          · subst d34
            obtain ⟨v', w3, hr3, ho3, hg3⟩ := append_byte w.heap.size _ n _ wr 34 HO.out HB.out.size (by omega)
            have HR3 := hid hr3
            have HO3 := hid ho3
            have HG3 := hid hg3
            have HP2 : Hid (qpart ((parts xs).drop k) = (34, 2)) := hid (by rw [HPs.out, HSg.out]; rfl)
            clear hr3 ho3 hg3 HPs HSg
            go_wp2_with (first | (at_builtin; refine wpList_append_ran rfl _ _ 56 56 rfl rfl _ _ v' w3 rfl rfl HR3.out ?_))
            exact ⟨unq_next (sz := 2) hlt hn hf HN.out HA.out HPl.out HPb.out HQ.out HO.out HB.out HP2.out (by decide) HO3.out HG3.out (by go_num), by simp [intOf]; omega⟩
          by_cases d92 : d = 92
          · subst d92
            obtain ⟨v', w3, hr3, ho3, hg3⟩ := append_byte w.heap.size _ n _ wr 92 HO.out HB.out.size (by omega)
            have HR3 := hid hr3
            have HO3 := hid ho3
            have HG3 := hid hg3
            have HP2 : Hid (qpart ((parts xs).drop k) = (92, 2)) := hid (by rw [HPs.out, HSg.out]; rfl)
            clear hr3 ho3 hg3 HPs HSg
            go_wp2_with (first | (at_builtin; refine wpList_append_ran rfl _ _ 56 56 rfl rfl _ _ v' w3 rfl rfl HR3.out ?_))
            exact ⟨unq_next (sz := 2) hlt hn hf HN.out HA.out HPl.out HPb.out HQ.out HO.out HB.out HP2.out (by decide) HO3.out HG3.out (by go_num), by simp [intOf]; omega⟩
          by_cases d110 : d = 110
          · subst d110
            obtain ⟨v', w3, hr3, ho3, hg3⟩ := append_byte w.heap.size _ n _ wr 10 HO.out HB.out.size (by omega)
            have HR3 := hid hr3
            have HO3 := hid ho3
            have HG3 := hid hg3
            have HP2 : Hid (qpart ((parts xs).drop k) = (10, 2)) := hid (by rw [HPs.out, HSg.out]; rfl)
            clear hr3 ho3 hg3 HPs HSg
            go_wp2_with (first | (at_builtin; refine wpList_append_ran rfl _ _ 56 56 rfl rfl _ _ v' w3 rfl rfl HR3.out ?_))
            exact ⟨unq_next (sz := 2) hlt hn hf HN.out HA.out HPl.out HPb.out HQ.out HO.out HB.out HP2.out (by decide) HO3.out HG3.out (by go_num), by simp [intOf]; omega⟩
          by_cases d116 : d = 116
          · subst d116
            obtain ⟨v', w3, hr3, ho3, hg3⟩ := append_byte w.heap.size _ n _ wr 9 HO.out HB.out.size (by omega)
            have HR3 := hid hr3
            have HO3 := hid ho3
            have HG3 := hid hg3
            have HP2 : Hid (qpart ((parts xs).drop k) = (9, 2)) := hid (by rw [HPs.out, HSg.out]; rfl)
            clear hr3 ho3 hg3 HPs HSg
            go_wp2_with (first | (at_builtin; refine wpList_append_ran rfl _ _ 56 56 rfl rfl _ _ v' w3 rfl rfl HR3.out ?_))
            exact ⟨unq_next (sz := 2) hlt hn hf HN.out HA.out HPl.out HPb.out HQ.out HO.out HB.out HP2.out (by decide) HO3.out HG3.out (by go_num), by simp [intOf]; omega⟩
          by_cases d114 : d = 114
          · subst d114
            obtain ⟨v', w3, hr3, ho3, hg3⟩ := append_byte w.heap.size _ n _ wr 13 HO.out HB.out.size (by omega)
            have HR3 := hid hr3
            have HO3 := hid ho3
            have HG3 := hid hg3
            have HP2 : Hid (qpart ((parts xs).drop k) = (13, 2)) := hid (by rw [HPs.out, HSg.out]; rfl)
            clear hr3 ho3 hg3 HPs HSg
            go_wp2_with (first | (at_builtin; refine wpList_append_ran rfl _ _ 56 56 rfl rfl _ _ v' w3 rfl rfl HR3.out ?_))
            exact ⟨unq_next (sz := 2) hlt hn hf HN.out HA.out HPl.out HPb.out HQ.out HO.out HB.out HP2.out (by decide) HO3.out HG3.out (by go_num), by simp [intOf]; omega⟩
          by_cases d120 : d = 120
          · subst d120
            have HPd : Hid (qpart ((parts xs).drop k) = dgP ((parts xs).drop (k + 2))) := hid (by rw [HPs.out, HSg.out]; rfl)
            clear HPs HSg
            by_cases hfit : k + 3 < m
            · have HDg := hid (dgP_drop (P := parts xs) (k := k + 2) (by rw [HPl.out]; omega))
              have ia : ∀ (kk : IntKind) (W : World), (Instr.index 9 (.string (strOfNums xs)) (.int kk ((k : Int) + 1 + 1 + 1))).run Tryz.prog W = .ok (.int .u8 ((parts xs)[k + 2]?.getD 0)) W := HIx.out (k + 2) (by omega) _ (by omega)
              have ib : ∀ (kk : IntKind) (W : World), (Instr.index 9 (.string (strOfNums xs)) (.int kk ((k : Int) + 1 + 1 + 2))).run Tryz.prog W = .ok (.int .u8 ((parts xs)[k + 3]?.getD 0)) W := HIx.out (k + 3) (by omega) _ (by omega)
              have hab := HGet.out (k + 2)
              have hbb := HGet.out (k + 3)
              rw [show k + 2 + 1 = k + 3 by omega] at HDg
              obtain ⟨a, haa⟩ : ∃ a, (parts xs)[k + 2]?.getD 0 = a := ⟨_, rfl⟩
              obtain ⟨b, hbe⟩ : ∃ b, (parts xs)[k + 3]?.getD 0 = b := ⟨_, rfl⟩
              rw [haa] at ia hab HDg
              rw [hbe] at ib hbb HDg
              have HXa := hid hab
              have HXb := hid hbb
              have ra := hx_range a
              have rb := hx_range b
              have hki3 : (k : Int) + 3 < (m : Int) := by omega
              clear haa hbe hab hbb
              by_cases na : hx a < 0
              · have HF := hid (unq_none (x := 0) hlt HPl.out HQ.out HB.out (by rw [HPd.out, HDg.out, if_pos (.inl na)]))
                clear HDg HPd
                go_wp2_with (first
                  | (go_at_call_of 80 a; refine (hexR a _ HXa.out.1 HXa.out.2).mono ?_; rintro e w' ⟨rfl, rfl⟩)
                  | (go_at_call_of 80 b; refine (hexR b _ HXb.out.1 HXb.out.2).mono ?_; rintro e w' ⟨rfl, rfl⟩))
                try rw [Exit.noGoto_ret]
                go_ret2
                exact HF.out
              by_cases nb : hx b < 0
              · have HF := hid (unq_none (x := 0) hlt HPl.out HQ.out HB.out (by rw [HPd.out, HDg.out, if_pos (.inr nb)]))
                clear HDg HPd
                go_wp2_with (first
                  | (go_at_call_of 80 a; refine (hexR a _ HXa.out.1 HXa.out.2).mono ?_; rintro e w' ⟨rfl, rfl⟩)
                  | (go_at_call_of 80 b; refine (hexR b _ HXb.out.1 HXb.out.2).mono ?_; rintro e w' ⟨rfl, rfl⟩))
                try rw [Exit.noGoto_ret]
                go_ret2
                exact HF.out
              have hmod : (hx a * 16 + hx b) % 256 = hx a * 16 + hx b := by omega
              have hdr : Below wr.heap.size wr wr.drew := ⟨rfl, rfl, rfl, Nat.le_refl _, fun _ _ => rfl⟩
              obtain ⟨v', w3, hr3, ho3, hg3⟩ := append_byte w.heap.size _ n _ wr.drew (hx a * 16 + hx b) (own_kept HO.out hdr) HB.out.size (by omega)
              have HR3 := hid hr3
              have HO3 := hid ho3
              have HG3 := hid ((Grow.ofBelow hdr).trans hg3)
              have HP2 : Hid (qpart ((parts xs).drop k) = ((hx a * 16 + hx b), 4)) := hid (by rw [HPd.out, HDg.out, if_neg (by omega)])
              have hw1 : IntKind.i64.wrap ((k : Int) + 1 + 1 + 1) = (k : Int) + 1 + 1 + 1 := wrap_small _ (by omega) (by omega)
              have hw2 : IntKind.i64.wrap ((k : Int) + 1 + 1 + 2) = (k : Int) + 1 + 1 + 2 := wrap_small _ (by omega) (by omega)
              have hw3 : IntKind.i64.wrap (hx a * 16) = hx a * 16 := wrap_small _ (by omega) (by omega)
              have hw4 : IntKind.i64.wrap (hx a * 16 + hx b) = hx a * 16 + hx b := wrap_small _ (by omega) (by omega)
              have hw5 : IntKind.u8.wrap (hx a * 16 + hx b) = hx a * 16 + hx b := by rw [byte_of]; exact hmod
              clear hr3 ho3 hg3 HPd HDg hdr
              go_wp2_with (first
                | (go_at_call_of 80 a; refine (hexR a _ HXa.out.1 HXa.out.2).mono ?_; rintro e w' ⟨rfl, rfl⟩)
                | (go_at_call_of 80 b; refine (hexR b _ HXb.out.1 HXb.out.2).mono ?_; rintro e w' ⟨rfl, rfl⟩))
              go_region_law (first
                | (refine step_append_ran rfl _ _ 56 56 rfl rfl _ _ v' w3 rfl rfl HR3.out ?_)
                | (go_simp; go_wp2_with (first
                  | (go_at_call_of 80 a; refine (hexR a _ HXa.out.1 HXa.out.2).mono ?_; rintro e w' ⟨rfl, rfl⟩)
                  | (go_at_call_of 80 b; refine (hexR b _ HXb.out.1 HXb.out.2).mono ?_; rintro e w' ⟨rfl, rfl⟩))))
              all_goals (try go_wp2)
              all_goals exact ⟨unq_next (sz := 4) hlt hn hf HN.out HA.out HPl.out HPb.out HQ.out HO.out HB.out HP2.out (by decide) HO3.out HG3.out (by go_num), by simp [intOf]; omega⟩
            · have HF := hid (unq_none (x := 0) hlt HPl.out HQ.out HB.out (by rw [HPd.out, dgP_end (by rw [HPl.out]; omega)]))
              have hki3 : ¬ (k : Int) + 3 < (m : Int) := by omega
              clear HPd
              go_wp2
              try rw [Exit.noGoto_ret]
              go_ret2
              exact HF.out
          have HF := hid (unq_none (x := 0) hlt HPl.out HQ.out HB.out (by rw [HPs.out, HSg.out, if_neg (by omega), if_neg d110, if_neg d116, if_neg d114, if_neg d120]))
          have f1 : (d == 34) = false := by simpa using d34
          have f2 : (d == 92) = false := by simpa using d92
          have f3 : (d == 110) = false := by simpa using d110
          have f4 : (d == 116) = false := by simpa using d116
          have f5 : (d == 114) = false := by simpa using d114
          have f6 : (d == 120) = false := by simpa using d120
          clear HPs HSg d34 d92 d110 d116 d114 d120
          go_wp2
          try rw [Exit.noGoto_ret]
          go_ret2
          exact HF.out
        · have HF := hid (unq_none (x := 0) hlt HPl.out HQ.out HB.out (by rw [HPs.out, sgP_end (by rw [HPl.out]; exact hlast)]))
          have hki : ¬ (k : Int) + 1 < (m : Int) := by omega
          clear HPs
          go_wp2
          try rw [Exit.noGoto_ret]
          go_ret2
          exact HF.out
      · have e92 : (c != 92) = true := by simpa using c92
        obtain ⟨v', w3, hr3, ho3, hg3⟩ := append_byte w.heap.size _ n _ wr c HO.out HB.out.size (by omega)
        have HR3 := hid hr3
        have HO3 := hid ho3
        have HG3 := hid hg3
        have HP2 : Hid (qpart ((parts xs).drop k) = (c, 1)) := hid (by rw [HPt.out, if_neg (by omega), if_neg c92])
        clear hr3 ho3 hg3 HPt c34 c10 c92
        go_wp2_with (first | (at_builtin; refine wpList_append_ran rfl _ _ 56 56 rfl rfl _ _ v' w3 rfl rfl HR3.out ?_))
        exact ⟨unq_next (sz := 1) hlt hn hf HN.out HA.out HPl.out HPb.out HQ.out HO.out HB.out HP2.out (by decide) HO3.out HG3.out (by go_num), by simp [intOf]; omega⟩
    · obtain ⟨a3, c3, e3, hrd⟩ := own_reads HO.out HA.out
      subst e3
      have HE : Hid (uq xs = some acc) := hid (by rw [← HQ.out, uq_end (by rw [HPl.out]; exact hlt)])
      have HRd := hid hrd
      have hki : ¬ (k : Int) < (m : Int) := by omega
      clear hrd HQ
      go_wp2
      go_ret2
      rw [HE.out]
      exact ⟨a3, c3, by rw [HN.out]; rfl, by rw [HN.out]; exact HRd.out, HB.out, fun x hx => by subst hx; exact (HO.out.lt _ rfl).1⟩
theorem ref_nil {w : World} {xs : List Int} (h : uq xs = none) : RefUnq w (uq xs) (.returned (.tuple #[.slice none 0 0, .bool false])) w := by rw [h]; exact ⟨rfl, Below.refl _ _⟩
set_option maxHeartbeats 400000 in
/-- The document's Unquote. -/
theorem refUnqR (xs : List Int) (w : World) (hb : ∀ x ∈ xs, 0 ≤ x ∧ x ≤ 255) (hl : xs.length ≤ 4194304) :
    Calls Tryz.prog 44 #[.string (strOfNums xs)] w fun e w' => RefUnq w (uq xs) e w' := by
  have hs : (strOfNums xs).size = xs.length := strOfNums_size xs
  by_cases h2 : xs.length < 2
  · have HE := hid (ref_nil (w := w) (uq_short h2))
    have hm2 : (xs.length : Int) < 2 := by omega
    go_enter Tryz.func44, Tryz.ntmps44
    go_wp2
    go_ret2
    exact HE.out
  by_cases h0 : xs[0]?.getD 0 = 34
  · have i0 : ∀ (k : IntKind) (W : World), (Instr.index 9 (.string (strOfNums xs)) (.int k 0)).run Tryz.prog W = .ok (.int .u8 34) W := fun k W => by rw [← h0]; exact index_str hb 0 (by omega) k W
    by_cases h1 : xs[xs.length - 1]?.getD 0 = 34
    · exact refUnqLoop xs xs.length (xs.length - 2) w hb rfl (by omega) (by omega) h0 (by rw [show xs.length - 2 + 1 = xs.length - 1 by omega]; exact h1)
    · have HE := hid (ref_nil (w := w) (uq_last h1))
      have i1 : ∀ (k : IntKind) (W : World), (Instr.index 9 (.string (strOfNums xs)) (.int k ((xs.length : Int) - 1))).run Tryz.prog W = .ok (.int .u8 (xs[xs.length - 1]?.getD 0)) W := fun k W => by
        have := index_str hb (xs.length - 1) (by omega) k W
        rw [show ((xs.length - 1 : Nat) : Int) = (xs.length : Int) - 1 by omega] at this
        exact this
      obtain ⟨d, hd⟩ : ∃ d, xs[xs.length - 1]?.getD 0 = d := ⟨_, rfl⟩
      rw [hd] at i1 h1
      have e1 : (d != 34) = true := by simpa using h1
      have hm1 : (xs.length : Int) ≤ 4194304 := by omega
      have hm2 : (2 : Int) ≤ (xs.length : Int) := by omega
      clear hb h0 hl h2 hd h1
      generalize xs.length = n at *
      go_enter Tryz.func44, Tryz.ntmps44
      go_wp2
      go_ret2
      exact HE.out
  · have HE := hid (ref_nil (w := w) (uq_first h0))
    have i0 : ∀ (k : IntKind) (W : World), (Instr.index 9 (.string (strOfNums xs)) (.int k 0)).run Tryz.prog W = .ok (.int .u8 (xs[0]?.getD 0)) W := fun k W => index_str hb 0 (by omega) k W
    obtain ⟨d, hd⟩ : ∃ d, xs[0]?.getD 0 = d := ⟨_, rfl⟩
    rw [hd] at i0 h0
    have e1 : (d != 34) = true := by simpa using h0
    have hm1 : (xs.length : Int) ≤ 4194304 := by omega
    have hm2 : (2 : Int) ≤ (xs.length : Int) := by omega
    generalize xs.length = n at *
    clear hb hd h0 hl h2
    go_enter Tryz.func44, Tryz.ntmps44
    go_wp2
    go_ret2
    exact HE.out
end Go.Proofs.YtidimdbnnnpplaaGreatDoor
