/-
  The document's form of a field.
-/
import Derived.Test.YtidimdbnnnpplaaGreatDoorCRT
import Derived.Test.YtidimdbnnnpplaaGreatDoorCPE
import Derived.Deep.CutRange
namespace Go.Proofs.YtidimdbnnnpplaaGreatDoor
open Go.RowKit
set_option maxRecDepth 1000000
set_option linter.unusedVariables false
set_option linter.unusedSimpArgs false
set_option maxHeartbeats 8000000
section
variable (w0 : World) (b off cap : Nat) (s : PS) (w : World)
theorem fieldR_cd (label : Int) (mark : Int × Int) (hl : label ≠ 4) (hi0 : isM (fldA s label mark).2 [91] = true) (h : StR w0 b off cap s) (hb : Below w0.heap.size w0 w) : Calls Tryz.prog 81 #[.agg #[.slice (some ⟨b, off, none⟩) s.l.length cap, .int .i64 s.cd, .int .i64 0, .int .i64 s.ln, .int .i64 s.cl], .int .i64 label, .agg #[.int .i64 mark.1, .int .i64 mark.2]] w fun e w' => (∃ f s' o c, Hid (f = (fldM s label mark).1) ∧ Hid (s' = (fldM s label mark).2) ∧ e = .returned (.tuple #[.agg #[.string (strOfNums f.name), .string (strOfNums f.ty), .string (strOfNums f.key), .int .u64 f.num, .int .i64 f.label, .int .i64 f.packed, .int .i64 f.oneof, .int .i64 f.at1.1, .int .i64 f.at1.2, .int .i64 f.nat1.1, .int .i64 f.nat1.2, .int .i64 f.tat.1, .int .i64 f.tat.2, .int .i64 f.mat.1, .int .i64 f.mat.2], .agg #[.slice (some ⟨b, o, none⟩) s'.l.length c, .int .i64 s'.cd, .int .i64 0, .int .i64 s'.ln, .int .i64 s'.cl]]) ∧ Hid (StR w0 b o c s')) ∧ Below w.heap.size w w' := by
  have hl4 : (label == 4) = false := by simpa using hl
  replace hl := hid hl
  replace hi0 := hid hi0
  have HB := hid hb
  have HW := hid h
  clear h hb
  obtain ⟨mkl, mkc⟩ := mark
  have hb0 : Hid (Below w.heap.size w w) := hid (Below.refl _ _)
  go_enter Tryz.func81, Tryz.ntmps81
  go_wp2_with fail
  refine (typR w0 b off cap s _ HW.out (bl_then HB.out (by have := hb0.out; exact blBy))).mono ?_
  rintro e w1 ⟨⟨t, pl, s1, o1, c1, ht, hpl, he1, rfl, hbd, hst1⟩, hb1⟩
  have Bs : Blk w1 (w.heap.size) 54 #[.slice (some ⟨b, off, none⟩) s.l.length cap, .int .i64 s.cd, .int .i64 0, .int .i64 s.ln, .int .i64 s.cl] := Blk.kept (((((Blk.newAt (by simp)).kept (below_alloc _)).kept (below_alloc _)).kept (below_alloc _)).is (by first | rfl | simp)) hb1
  have Bk : Blk w1 (w.heap.size + 1) 64 #[.int .i64 mkl, .int .i64 mkc] := Blk.kept ((((Blk.newAt (by simp)).kept (below_alloc _)).kept (below_alloc _)).is (by first | rfl | simp)) hb1
  have Br6 : Blk w1 (w.heap.size + 1 + 1) 78 #[.string ⟨#[]⟩, .string ⟨#[]⟩, .string ⟨#[]⟩, .int .u64 0, .int .i64 0, .int .i64 0, .int .i64 0, .int .i64 0, .int .i64 0, .int .i64 0, .int .i64 0, .int .i64 0, .int .i64 0, .int .i64 0, .int .i64 0] := Blk.kept (((Blk.newAt (by simp)).kept (below_alloc _)).is (by first | rfl | simp)) hb1
  have Br7 : Blk w1 (w.heap.size + 1 + 1 + 1) 54 #[.slice none 0 0, .int .i64 0, .int .i64 0, .int .i64 0, .int .i64 0] := Blk.kept ((Blk.newAt (by simp)).is (by first | rfl | simp)) hb1
  have hs1 := hb1.size
  try simp at hs1
  have xs := Bs.cellF
  have ys := Bs.frz
  have zs : w.heap.size < w1.heap.size := by omega
  have xk := Bk.cellF
  have yk := Bk.frz
  have zk : w.heap.size + 1 < w1.heap.size := by omega
  have xr6 := Br6.cellF
  have yr6 := Br6.frz
  have zr6 : w.heap.size + 1 + 1 < w1.heap.size := by omega
  have xr7 := Br7.cellF
  have yr7 := Br7.frz
  have zr7 : w.heap.size + 1 + 1 + 1 < w1.heap.size := by omega
  replace hb1 : Hid (Below w.heap.size w w1) := hid (bl_then (by have := hb0.out; exact blBy) hb1)
  go_wp2_with fail
  refine (namedR w0 b o1 c1 s1 _ hst1.out (bl_then HB.out (by have := hb1.out; exact blBy))).mono ?_
  rintro e w2 ⟨⟨m, n, s2, sa, sc, ta, tc, o2, c2, hm, hn, he2, rfl, hkm, hkn, hst2⟩, hb2⟩
  replace Bs : Blk w2 (w.heap.size) 54 #[.slice (some ⟨b, o1, none⟩) s1.l.length c1, .int .i64 s1.cd, .int .i64 0, .int .i64 s1.ln, .int .i64 s1.cl] := Blk.kept (((blkall5 Bs).kept (below_alloc _)).is (by first | rfl | simp)) hb2
  replace Bk : Blk w2 (w.heap.size + 1) 64 #[.int .i64 mkl, .int .i64 mkc] := Blk.kept (((blkoth5 Bk (show w.heap.size + 1 ≠ w.heap.size by omega)).kept (below_alloc _)).is (by first | rfl | simp)) hb2
  replace Br6 : Blk w2 (w.heap.size + 1 + 1) 78 #[.string ⟨#[]⟩, .string ⟨#[]⟩, .string ⟨#[]⟩, .int .u64 0, .int .i64 0, .int .i64 0, .int .i64 0, .int .i64 0, .int .i64 0, .int .i64 0, .int .i64 0, .int .i64 0, .int .i64 0, .int .i64 0, .int .i64 0] := Blk.kept (((blkoth5 Br6 (show w.heap.size + 1 + 1 ≠ w.heap.size by omega)).kept (below_alloc _)).is (by first | rfl | simp)) hb2
  replace Br7 : Blk w2 (w.heap.size + 1 + 1 + 1) 54 #[.slice none 0 0, .int .i64 0, .int .i64 0, .int .i64 0, .int .i64 0] := Blk.kept (((blkoth5 Br7 (show w.heap.size + 1 + 1 + 1 ≠ w.heap.size by omega)).kept (below_alloc _)).is (by first | rfl | simp)) hb2
  have Bp : Blk w2 (w1.heap.size) 64 #[.int .i64 pl.1, .int .i64 pl.2] := Blk.kept ((Blk.newAt (by simp)).is (by first | rfl | simp)) hb2
  clear xs ys xk yk xr6 yr6 xr7 yr7
  have hs2 := hb2.size
  try simp at hs2
  have xs := Bs.cellF
  have ys := Bs.frz
  replace zs : w.heap.size < w2.heap.size := by omega
  have xk := Bk.cellF
  have yk := Bk.frz
  replace zk : w.heap.size + 1 < w2.heap.size := by omega
  have xr6 := Br6.cellF
  have yr6 := Br6.frz
  replace zr6 : w.heap.size + 1 + 1 < w2.heap.size := by omega
  have xr7 := Br7.cellF
  have yr7 := Br7.frz
  replace zr7 : w.heap.size + 1 + 1 + 1 < w2.heap.size := by omega
  have xp := Bp.cellF
  have yp := Bp.frz
  have zp : w1.heap.size < w2.heap.size := by omega
  replace hb2 : Hid (Below w.heap.size w w2) := hid (bl_then (by have := hb1.out; exact blBy) hb2)
  have HFA : Hid (fldA s label (mkl, mkc) = (fld [] t pl m n label (mkl, mkc), s2)) := hid (by unfold fldA; rw [← ht.out, ← hpl.out, ← he1.out, ← hm.out, ← hn.out, ← he2.out])
  go_upto_region 3 with fail
  go_cut [12] from 25 to 37 (fun s12 wc => ∃ Q, s12 = .pointer (some ⟨Q, 0, none⟩) ∧ Hid (Below w.heap.size w wc) ∧ Hid (w2.heap.size ≤ Q ∧ Q < wc.heap.size) ∧ Hid (Blk wc Q 78 #[.string (strOfNums m.s), .string (strOfNums t), .string ⟨#[]⟩, .int .u64 n.n, .int .i64 label, .int .i64 0, .int .i64 0, .int .i64 m.line, .int .i64 m.col, .int .i64 n.line, .int .i64 n.col, .int .i64 pl.1, .int .i64 pl.2, .int .i64 mkl, .int .i64 mkc]) ∧ Hid (Blk wc (w.heap.size) 54 #[.slice (some ⟨b, o2, none⟩) s2.l.length c2, .int .i64 s2.cd, .int .i64 0, .int .i64 s2.ln, .int .i64 s2.cl]) ∧ Hid (Blk wc (w.heap.size + 1 + 1) 78 #[.string ⟨#[]⟩, .string ⟨#[]⟩, .string ⟨#[]⟩, .int .u64 0, .int .i64 0, .int .i64 0, .int .i64 0, .int .i64 0, .int .i64 0, .int .i64 0, .int .i64 0, .int .i64 0, .int .i64 0, .int .i64 0, .int .i64 0]) ∧ Hid (Blk wc (w.heap.size + 1 + 1 + 1) 54 #[.slice none 0 0, .int .i64 0, .int .i64 0, .int .i64 0, .int .i64 0]))
  case first =>
    have Es : Blk (((((((w2.setCell ⟨w.heap.size, 0, none⟩ (.slice (some ⟨b, o2, none⟩) s2.l.length c2)).setCell ⟨w.heap.size, 1, none⟩ (.int .i64 s2.cd)).setCell ⟨w.heap.size, 2, none⟩ (.int .i64 0)).setCell ⟨w.heap.size, 3, none⟩ (.int .i64 s2.ln)).setCell ⟨w.heap.size, 4, none⟩ (.int .i64 s2.cl)).alloc (.cells #[.int .i64 m.kind, .string (strOfNums m.s), .int .u64 m.n, .slice sa m.b.length sc, .int .i64 m.line, .int .i64 m.col] 58)).alloc (.cells #[.int .i64 n.kind, .string (strOfNums n.s), .int .u64 n.n, .slice ta n.b.length tc, .int .i64 n.line, .int .i64 n.col] 58)) (w.heap.size) 54 #[.slice (some ⟨b, o2, none⟩) s2.l.length c2, .int .i64 s2.cd, .int .i64 0, .int .i64 s2.ln, .int .i64 s2.cl] := ((((blkall5 Bs).kept (below_alloc _)).kept (below_alloc _)).is (by first | rfl | simp))
    have Ek : Blk (((((((w2.setCell ⟨w.heap.size, 0, none⟩ (.slice (some ⟨b, o2, none⟩) s2.l.length c2)).setCell ⟨w.heap.size, 1, none⟩ (.int .i64 s2.cd)).setCell ⟨w.heap.size, 2, none⟩ (.int .i64 0)).setCell ⟨w.heap.size, 3, none⟩ (.int .i64 s2.ln)).setCell ⟨w.heap.size, 4, none⟩ (.int .i64 s2.cl)).alloc (.cells #[.int .i64 m.kind, .string (strOfNums m.s), .int .u64 m.n, .slice sa m.b.length sc, .int .i64 m.line, .int .i64 m.col] 58)).alloc (.cells #[.int .i64 n.kind, .string (strOfNums n.s), .int .u64 n.n, .slice ta n.b.length tc, .int .i64 n.line, .int .i64 n.col] 58)) (w.heap.size + 1) 64 #[.int .i64 mkl, .int .i64 mkc] := ((((blkoth5 Bk (show w.heap.size + 1 ≠ w.heap.size by omega)).kept (below_alloc _)).kept (below_alloc _)).is (by first | rfl | simp))
    have Er6 : Blk (((((((w2.setCell ⟨w.heap.size, 0, none⟩ (.slice (some ⟨b, o2, none⟩) s2.l.length c2)).setCell ⟨w.heap.size, 1, none⟩ (.int .i64 s2.cd)).setCell ⟨w.heap.size, 2, none⟩ (.int .i64 0)).setCell ⟨w.heap.size, 3, none⟩ (.int .i64 s2.ln)).setCell ⟨w.heap.size, 4, none⟩ (.int .i64 s2.cl)).alloc (.cells #[.int .i64 m.kind, .string (strOfNums m.s), .int .u64 m.n, .slice sa m.b.length sc, .int .i64 m.line, .int .i64 m.col] 58)).alloc (.cells #[.int .i64 n.kind, .string (strOfNums n.s), .int .u64 n.n, .slice ta n.b.length tc, .int .i64 n.line, .int .i64 n.col] 58)) (w.heap.size + 1 + 1) 78 #[.string ⟨#[]⟩, .string ⟨#[]⟩, .string ⟨#[]⟩, .int .u64 0, .int .i64 0, .int .i64 0, .int .i64 0, .int .i64 0, .int .i64 0, .int .i64 0, .int .i64 0, .int .i64 0, .int .i64 0, .int .i64 0, .int .i64 0] := ((((blkoth5 Br6 (show w.heap.size + 1 + 1 ≠ w.heap.size by omega)).kept (below_alloc _)).kept (below_alloc _)).is (by first | rfl | simp))
    have Er7 : Blk (((((((w2.setCell ⟨w.heap.size, 0, none⟩ (.slice (some ⟨b, o2, none⟩) s2.l.length c2)).setCell ⟨w.heap.size, 1, none⟩ (.int .i64 s2.cd)).setCell ⟨w.heap.size, 2, none⟩ (.int .i64 0)).setCell ⟨w.heap.size, 3, none⟩ (.int .i64 s2.ln)).setCell ⟨w.heap.size, 4, none⟩ (.int .i64 s2.cl)).alloc (.cells #[.int .i64 m.kind, .string (strOfNums m.s), .int .u64 m.n, .slice sa m.b.length sc, .int .i64 m.line, .int .i64 m.col] 58)).alloc (.cells #[.int .i64 n.kind, .string (strOfNums n.s), .int .u64 n.n, .slice ta n.b.length tc, .int .i64 n.line, .int .i64 n.col] 58)) (w.heap.size + 1 + 1 + 1) 54 #[.slice none 0 0, .int .i64 0, .int .i64 0, .int .i64 0, .int .i64 0] := ((((blkoth5 Br7 (show w.heap.size + 1 + 1 + 1 ≠ w.heap.size by omega)).kept (below_alloc _)).kept (below_alloc _)).is (by first | rfl | simp))
    have Ep : Blk (((((((w2.setCell ⟨w.heap.size, 0, none⟩ (.slice (some ⟨b, o2, none⟩) s2.l.length c2)).setCell ⟨w.heap.size, 1, none⟩ (.int .i64 s2.cd)).setCell ⟨w.heap.size, 2, none⟩ (.int .i64 0)).setCell ⟨w.heap.size, 3, none⟩ (.int .i64 s2.ln)).setCell ⟨w.heap.size, 4, none⟩ (.int .i64 s2.cl)).alloc (.cells #[.int .i64 m.kind, .string (strOfNums m.s), .int .u64 m.n, .slice sa m.b.length sc, .int .i64 m.line, .int .i64 m.col] 58)).alloc (.cells #[.int .i64 n.kind, .string (strOfNums n.s), .int .u64 n.n, .slice ta n.b.length tc, .int .i64 n.line, .int .i64 n.col] 58)) (w1.heap.size) 64 #[.int .i64 pl.1, .int .i64 pl.2] := ((((blkoth5 Bp (show w1.heap.size ≠ w.heap.size by omega)).kept (below_alloc _)).kept (below_alloc _)).is (by first | rfl | simp))
    have Em : Blk (((((((w2.setCell ⟨w.heap.size, 0, none⟩ (.slice (some ⟨b, o2, none⟩) s2.l.length c2)).setCell ⟨w.heap.size, 1, none⟩ (.int .i64 s2.cd)).setCell ⟨w.heap.size, 2, none⟩ (.int .i64 0)).setCell ⟨w.heap.size, 3, none⟩ (.int .i64 s2.ln)).setCell ⟨w.heap.size, 4, none⟩ (.int .i64 s2.cl)).alloc (.cells #[.int .i64 m.kind, .string (strOfNums m.s), .int .u64 m.n, .slice sa m.b.length sc, .int .i64 m.line, .int .i64 m.col] 58)).alloc (.cells #[.int .i64 n.kind, .string (strOfNums n.s), .int .u64 n.n, .slice ta n.b.length tc, .int .i64 n.line, .int .i64 n.col] 58)) (w2.heap.size) 58 #[.int .i64 m.kind, .string (strOfNums m.s), .int .u64 m.n, .slice sa m.b.length sc, .int .i64 m.line, .int .i64 m.col] := (((Blk.newAt (by simp)).kept (below_alloc _)).is (by first | rfl | simp))
    have En : Blk (((((((w2.setCell ⟨w.heap.size, 0, none⟩ (.slice (some ⟨b, o2, none⟩) s2.l.length c2)).setCell ⟨w.heap.size, 1, none⟩ (.int .i64 s2.cd)).setCell ⟨w.heap.size, 2, none⟩ (.int .i64 0)).setCell ⟨w.heap.size, 3, none⟩ (.int .i64 s2.ln)).setCell ⟨w.heap.size, 4, none⟩ (.int .i64 s2.cl)).alloc (.cells #[.int .i64 m.kind, .string (strOfNums m.s), .int .u64 m.n, .slice sa m.b.length sc, .int .i64 m.line, .int .i64 m.col] 58)).alloc (.cells #[.int .i64 n.kind, .string (strOfNums n.s), .int .u64 n.n, .slice ta n.b.length tc, .int .i64 n.line, .int .i64 n.col] 58)) (w2.heap.size + 1) 58 #[.int .i64 n.kind, .string (strOfNums n.s), .int .u64 n.n, .slice ta n.b.length tc, .int .i64 n.line, .int .i64 n.col] := ((Blk.newAt (by simp)).is (by first | rfl | simp))
    have hbm : Hid (Below w.heap.size w (((((((w2.setCell ⟨w.heap.size, 0, none⟩ (.slice (some ⟨b, o2, none⟩) s2.l.length c2)).setCell ⟨w.heap.size, 1, none⟩ (.int .i64 s2.cd)).setCell ⟨w.heap.size, 2, none⟩ (.int .i64 0)).setCell ⟨w.heap.size, 3, none⟩ (.int .i64 s2.ln)).setCell ⟨w.heap.size, 4, none⟩ (.int .i64 s2.cl)).alloc (.cells #[.int .i64 m.kind, .string (strOfNums m.s), .int .u64 m.n, .slice sa m.b.length sc, .int .i64 m.line, .int .i64 m.col] 58)).alloc (.cells #[.int .i64 n.kind, .string (strOfNums n.s), .int .u64 n.n, .slice ta n.b.length tc, .int .i64 n.line, .int .i64 n.col] 58))) := hid (by have := hb2.out; exact blBy)
    have zwm : w2.heap.size + 1 < (((((((w2.setCell ⟨w.heap.size, 0, none⟩ (.slice (some ⟨b, o2, none⟩) s2.l.length c2)).setCell ⟨w.heap.size, 1, none⟩ (.int .i64 s2.cd)).setCell ⟨w.heap.size, 2, none⟩ (.int .i64 0)).setCell ⟨w.heap.size, 3, none⟩ (.int .i64 s2.ln)).setCell ⟨w.heap.size, 4, none⟩ (.int .i64 s2.cl)).alloc (.cells #[.int .i64 m.kind, .string (strOfNums m.s), .int .u64 m.n, .slice sa m.b.length sc, .int .i64 m.line, .int .i64 m.col] 58)).alloc (.cells #[.int .i64 n.kind, .string (strOfNums n.s), .int .u64 n.n, .slice ta n.b.length tc, .int .i64 n.line, .int .i64 n.col] 58)).heap.size := by simp
    clear Bs xs ys zs Bk xk yk zk Br6 xr6 yr6 zr6 Br7 xr7 yr7 zr7 Bp xp yp zp
    generalize (((((((w2.setCell ⟨w.heap.size, 0, none⟩ (.slice (some ⟨b, o2, none⟩) s2.l.length c2)).setCell ⟨w.heap.size, 1, none⟩ (.int .i64 s2.cd)).setCell ⟨w.heap.size, 2, none⟩ (.int .i64 0)).setCell ⟨w.heap.size, 3, none⟩ (.int .i64 s2.ln)).setCell ⟨w.heap.size, 4, none⟩ (.int .i64 s2.cl)).alloc (.cells #[.int .i64 m.kind, .string (strOfNums m.s), .int .u64 m.n, .slice sa m.b.length sc, .int .i64 m.line, .int .i64 m.col] 58)).alloc (.cells #[.int .i64 n.kind, .string (strOfNums n.s), .int .u64 n.n, .slice ta n.b.length tc, .int .i64 n.line, .int .i64 n.col] 58)) = wm at *
    have Bs := Es
    clear Es
    have Bk := Ek
    clear Ek
    have Br6 := Er6
    clear Er6
    have Br7 := Er7
    clear Er7
    have Bp := Ep
    clear Ep
    have Bm := Em
    clear Em
    have Bn := En
    clear En
    have xm := Bm.cellF
    have xn := Bn.cellF
    have xp := Bp.cellF
    have xk := Bk.cellF
    go_region_held3 (fun W => (W.cell? ⟨w2.heap.size, 0, none⟩ = some (.int .i64 m.kind) ∧ W.cell? ⟨w2.heap.size, 1, none⟩ = some (.string (strOfNums m.s)) ∧ W.cell? ⟨w2.heap.size, 2, none⟩ = some (.int .u64 m.n) ∧ W.cell? ⟨w2.heap.size, 3, none⟩ = some (.slice sa m.b.length sc) ∧ W.cell? ⟨w2.heap.size, 4, none⟩ = some (.int .i64 m.line) ∧ W.cell? ⟨w2.heap.size, 5, none⟩ = some (.int .i64 m.col)) ∧ (W.cell? ⟨w2.heap.size + 1, 0, none⟩ = some (.int .i64 n.kind) ∧ W.cell? ⟨w2.heap.size + 1, 1, none⟩ = some (.string (strOfNums n.s)) ∧ W.cell? ⟨w2.heap.size + 1, 2, none⟩ = some (.int .u64 n.n) ∧ W.cell? ⟨w2.heap.size + 1, 3, none⟩ = some (.slice ta n.b.length tc) ∧ W.cell? ⟨w2.heap.size + 1, 4, none⟩ = some (.int .i64 n.line) ∧ W.cell? ⟨w2.heap.size + 1, 5, none⟩ = some (.int .i64 n.col)) ∧ (W.cell? ⟨w1.heap.size, 0, none⟩ = some (.int .i64 pl.1) ∧ W.cell? ⟨w1.heap.size, 1, none⟩ = some (.int .i64 pl.2)) ∧ (W.cell? ⟨w.heap.size + 1, 0, none⟩ = some (.int .i64 mkl) ∧ W.cell? ⟨w.heap.size + 1, 1, none⟩ = some (.int .i64 mkc))) ((refine ⟨blkc6 (t := 58) ?_, blkc6 (t := 58) ?_, blkc2 (t := 64) ?_, blkc2 (t := 64) ?_⟩ <;> (with_reducible repeat (first | exact Vmu2.out | exact Vnu2.out | exact Vpu2.out | exact Vku2.out | exact Vmu1.out | exact Vnu1.out | exact Vpu1.out | exact Vku1.out | exact Bm | exact Bn | exact Bp | exact Bk | refine Blk.oth ?_ | refine Blk.kept ?_ (below_drew1 _) | refine Blk.kept ?_ (below_alloc _))); done)) (first | (go_at_call_of 20 m; refine (atR _ m sa sc).mono ?_; rintro e u1 ⟨rfl, hbu⟩; have Vsu1 : Hid (Blk u1 (w.heap.size) 54 #[.slice (some ⟨b, o2, none⟩) s2.l.length c2, .int .i64 s2.cd, .int .i64 0, .int .i64 s2.ln, .int .i64 s2.cl]) := hid (Blk.kept (by (with_reducible repeat (first | exact Bs | refine Blk.oth ?_ | refine Blk.kept ?_ (below_drew1 _) | refine Blk.kept ?_ (below_alloc _))); done) hbu); have Vku1 : Hid (Blk u1 (w.heap.size + 1) 64 #[.int .i64 mkl, .int .i64 mkc]) := hid (Blk.kept (by (with_reducible repeat (first | exact Bk | refine Blk.oth ?_ | refine Blk.kept ?_ (below_drew1 _) | refine Blk.kept ?_ (below_alloc _))); done) hbu); have Vr6u1 : Hid (Blk u1 (w.heap.size + 1 + 1) 78 #[.string ⟨#[]⟩, .string ⟨#[]⟩, .string ⟨#[]⟩, .int .u64 0, .int .i64 0, .int .i64 0, .int .i64 0, .int .i64 0, .int .i64 0, .int .i64 0, .int .i64 0, .int .i64 0, .int .i64 0, .int .i64 0, .int .i64 0]) := hid (Blk.kept (by (with_reducible repeat (first | exact Br6 | refine Blk.oth ?_ | refine Blk.kept ?_ (below_drew1 _) | refine Blk.kept ?_ (below_alloc _))); done) hbu); have Vr7u1 : Hid (Blk u1 (w.heap.size + 1 + 1 + 1) 54 #[.slice none 0 0, .int .i64 0, .int .i64 0, .int .i64 0, .int .i64 0]) := hid (Blk.kept (by (with_reducible repeat (first | exact Br7 | refine Blk.oth ?_ | refine Blk.kept ?_ (below_drew1 _) | refine Blk.kept ?_ (below_alloc _))); done) hbu); have Vpu1 : Hid (Blk u1 (w1.heap.size) 64 #[.int .i64 pl.1, .int .i64 pl.2]) := hid (Blk.kept (by (with_reducible repeat (first | exact Bp | refine Blk.oth ?_ | refine Blk.kept ?_ (below_drew1 _) | refine Blk.kept ?_ (below_alloc _))); done) hbu); have Vmu1 : Hid (Blk u1 (w2.heap.size) 58 #[.int .i64 m.kind, .string (strOfNums m.s), .int .u64 m.n, .slice sa m.b.length sc, .int .i64 m.line, .int .i64 m.col]) := hid (Blk.kept (by (with_reducible repeat (first | exact Bm | refine Blk.oth ?_ | refine Blk.kept ?_ (below_drew1 _) | refine Blk.kept ?_ (below_alloc _))); done) hbu); have Vnu1 : Hid (Blk u1 (w2.heap.size + 1) 58 #[.int .i64 n.kind, .string (strOfNums n.s), .int .u64 n.n, .slice ta n.b.length tc, .int .i64 n.line, .int .i64 n.col]) := hid (Blk.kept (by (with_reducible repeat (first | exact Bn | refine Blk.oth ?_ | refine Blk.kept ?_ (below_drew1 _) | refine Blk.kept ?_ (below_alloc _))); done) hbu); (try have Y1 : Hid (Blk u1 wm.heap.size 78 #[.string ⟨#[]⟩, .string ⟨#[]⟩, .string ⟨#[]⟩, .int .u64 0, .int .i64 0, .int .i64 0, .int .i64 0, .int .i64 0, .int .i64 0, .int .i64 0, .int .i64 0, .int .i64 0, .int .i64 0, .int .i64 0, .int .i64 0]) := hid (Blk.kept (by first | with_reducible exact (Blk.newAt (w := wm) rfl).kept (below_drew1 _) | with_reducible exact Blk.newAt (w := wm.drew) rfl) hbu)); have hsu1 := hbu.size; (try simp at hsu1); have hbb1 : Hid (Below w.heap.size w u1) := hid (bl_then (by have := hbm.out; exact blBy) hbu); clear hbu) | (go_at_call_of 20 n; refine (atR _ n ta tc).mono ?_; rintro e u2 ⟨rfl, hbu⟩; have Vsu2 : Hid (Blk u2 (w.heap.size) 54 #[.slice (some ⟨b, o2, none⟩) s2.l.length c2, .int .i64 s2.cd, .int .i64 0, .int .i64 s2.ln, .int .i64 s2.cl]) := hid (Blk.kept (by (with_reducible repeat (first | exact Vsu1.out | refine Blk.oth ?_ | refine Blk.kept ?_ (below_drew1 _) | refine Blk.kept ?_ (below_alloc _))); done) hbu); have Vku2 : Hid (Blk u2 (w.heap.size + 1) 64 #[.int .i64 mkl, .int .i64 mkc]) := hid (Blk.kept (by (with_reducible repeat (first | exact Vku1.out | refine Blk.oth ?_ | refine Blk.kept ?_ (below_drew1 _) | refine Blk.kept ?_ (below_alloc _))); done) hbu); have Vr6u2 : Hid (Blk u2 (w.heap.size + 1 + 1) 78 #[.string ⟨#[]⟩, .string ⟨#[]⟩, .string ⟨#[]⟩, .int .u64 0, .int .i64 0, .int .i64 0, .int .i64 0, .int .i64 0, .int .i64 0, .int .i64 0, .int .i64 0, .int .i64 0, .int .i64 0, .int .i64 0, .int .i64 0]) := hid (Blk.kept (by (with_reducible repeat (first | exact Vr6u1.out | refine Blk.oth ?_ | refine Blk.kept ?_ (below_drew1 _) | refine Blk.kept ?_ (below_alloc _))); done) hbu); have Vr7u2 : Hid (Blk u2 (w.heap.size + 1 + 1 + 1) 54 #[.slice none 0 0, .int .i64 0, .int .i64 0, .int .i64 0, .int .i64 0]) := hid (Blk.kept (by (with_reducible repeat (first | exact Vr7u1.out | refine Blk.oth ?_ | refine Blk.kept ?_ (below_drew1 _) | refine Blk.kept ?_ (below_alloc _))); done) hbu); have Vpu2 : Hid (Blk u2 (w1.heap.size) 64 #[.int .i64 pl.1, .int .i64 pl.2]) := hid (Blk.kept (by (with_reducible repeat (first | exact Vpu1.out | refine Blk.oth ?_ | refine Blk.kept ?_ (below_drew1 _) | refine Blk.kept ?_ (below_alloc _))); done) hbu); have Vmu2 : Hid (Blk u2 (w2.heap.size) 58 #[.int .i64 m.kind, .string (strOfNums m.s), .int .u64 m.n, .slice sa m.b.length sc, .int .i64 m.line, .int .i64 m.col]) := hid (Blk.kept (by (with_reducible repeat (first | exact Vmu1.out | refine Blk.oth ?_ | refine Blk.kept ?_ (below_drew1 _) | refine Blk.kept ?_ (below_alloc _))); done) hbu); have Vnu2 : Hid (Blk u2 (w2.heap.size + 1) 58 #[.int .i64 n.kind, .string (strOfNums n.s), .int .u64 n.n, .slice ta n.b.length tc, .int .i64 n.line, .int .i64 n.col]) := hid (Blk.kept (by (with_reducible repeat (first | exact Vnu1.out | refine Blk.oth ?_ | refine Blk.kept ?_ (below_drew1 _) | refine Blk.kept ?_ (below_alloc _))); done) hbu); (try have X1 : Hid (Blk u2 wm.heap.size 78 #[.string ⟨#[]⟩, .string ⟨#[]⟩, .string ⟨#[]⟩, .int .u64 0, .int .i64 0, .int .i64 0, .int .i64 0, .int .i64 0, .int .i64 0, .int .i64 0, .int .i64 0, .int .i64 0, .int .i64 0, .int .i64 0, .int .i64 0]) := hid (Blk.kept (by with_reducible exact Y1.out) hbu)); (try have X2 : Hid (Blk u2 u1.heap.size 78 #[.string ⟨#[]⟩, .string ⟨#[]⟩, .string ⟨#[]⟩, .int .u64 0, .int .i64 0, .int .i64 0, .int .i64 0, .int .i64 0, .int .i64 0, .int .i64 0, .int .i64 0, .int .i64 0, .int .i64 0, .int .i64 0, .int .i64 0]) := hid (Blk.kept (by with_reducible exact Blk.newAt (w := u1) rfl) hbu)); (try have xx1 := X1.out.cellF); (try have xy1 := X1.out.frz); (try have xx2 := X2.out.cellF); (try have xy2 := X2.out.frz); have hsu2 := hbu.size; (try simp at hsu2); have hbb2 : Hid (Below w.heap.size w u2) := hid (bl_then (by have := hbb1.out; exact blBy) hbu); clear hbu))
    all_goals (go_wp2_with fail; go_meet; first | (have hq := X1; exact ⟨wm.heap.size, rfl, hid (by have := hbb2.out; exact blBy), hid ⟨by omega, by first | (simp; done) | (simp; omega) | omega⟩, hid (blkall15 X1.out), hid (by (with_reducible repeat (first | exact Vsu2.out | refine blkoth15 ?_ (by omega) | refine Blk.oth ?_ | refine Blk.kept ?_ (below_drew1 _) | refine Blk.kept ?_ (below_alloc _))); done), hid (by (with_reducible repeat (first | exact Vr6u2.out | refine blkoth15 ?_ (by omega) | refine Blk.oth ?_ | refine Blk.kept ?_ (below_drew1 _) | refine Blk.kept ?_ (below_alloc _))); done), hid (by (with_reducible repeat (first | exact Vr7u2.out | refine blkoth15 ?_ (by omega) | refine Blk.oth ?_ | refine Blk.kept ?_ (below_drew1 _) | refine Blk.kept ?_ (below_alloc _))); done)⟩) | (have hq := X2; exact ⟨u1.heap.size, rfl, hid (by have := hbb2.out; exact blBy), hid ⟨by omega, by first | (simp; done) | (simp; omega) | omega⟩, hid (blkall15 X2.out), hid (by (with_reducible repeat (first | exact Vsu2.out | refine blkoth15 ?_ (by omega) | refine Blk.oth ?_ | refine Blk.kept ?_ (below_drew1 _) | refine Blk.kept ?_ (below_alloc _))); done), hid (by (with_reducible repeat (first | exact Vr6u2.out | refine blkoth15 ?_ (by omega) | refine Blk.oth ?_ | refine Blk.kept ?_ (below_drew1 _) | refine Blk.kept ?_ (below_alloc _))); done), hid (by (with_reducible repeat (first | exact Vr7u2.out | refine blkoth15 ?_ (by omega) | refine Blk.oth ?_ | refine Blk.kept ?_ (below_drew1 _) | refine Blk.kept ?_ (below_alloc _))); done)⟩) | (exact ⟨u2.heap.size, rfl, hid (by have := hbb2.out; exact blBy), hid ⟨by omega, by first | (simp; done) | (simp; omega) | omega⟩, hid (Blk.newAt rfl), hid (by (with_reducible repeat (first | exact Vsu2.out | refine blkoth15 ?_ (by omega) | refine Blk.oth ?_ | refine Blk.kept ?_ (below_drew1 _) | refine Blk.kept ?_ (below_alloc _))); done), hid (by (with_reducible repeat (first | exact Vr6u2.out | refine blkoth15 ?_ (by omega) | refine Blk.oth ?_ | refine Blk.kept ?_ (below_drew1 _) | refine Blk.kept ?_ (below_alloc _))); done), hid (by (with_reducible repeat (first | exact Vr7u2.out | refine blkoth15 ?_ (by omega) | refine Blk.oth ?_ | refine Blk.kept ?_ (below_drew1 _) | refine Blk.kept ?_ (below_alloc _))); done)⟩))
  case rest =>
    obtain ⟨Q, rfl, hb0, hQ, BF, BS, B6, B7⟩ := hcut
    have hQ1 := hQ.out.1
    have hQ2 := hQ.out.2
    clear Bs xs ys zs Bk xk yk zk Br6 xr6 yr6 zr6 Br7 xr7 yr7 zr7 Bp xp yp zp
    have Bs := BS.out
    have Br6 := B6.out
    have Br7 := B7.out
    have Bf := BF.out
    have xs := Bs.cellF
    have ys := Bs.frz
    have zs : w.heap.size < wc.heap.size := by omega
    have xr6 := Br6.cellF
    have yr6 := Br6.frz
    have zr6 : w.heap.size + 1 + 1 < wc.heap.size := by omega
    have xr7 := Br7.cellF
    have yr7 := Br7.frz
    have zr7 : w.heap.size + 1 + 1 + 1 < wc.heap.size := by omega
    have xf := Bf.cellF
    have yf := Bf.frz
    have zf : Q < wc.heap.size := by omega
    clear BF BS B6 B7 hQ
    have hi : isM s2 [91] = true := by have := hi0.out; rw [HFA.out] at this; exact this
    go_wp2_with fail
    refine (isR w0 b o2 c2 s2 _ ⟨#[91]⟩ [91] rfl (by decide) hst2.out (bl_then HB.out (by have := hb0.out; exact blBy))).mono ?_
    rintro e v1 ⟨rfl, hb1⟩
    replace Bs : Blk v1 (w.heap.size) 54 #[.slice (some ⟨b, o2, none⟩) s2.l.length c2, .int .i64 s2.cd, .int .i64 0, .int .i64 s2.ln, .int .i64 s2.cl] := Blk.kept (Bs.is (by first | rfl | simp)) hb1
    replace Br6 : Blk v1 (w.heap.size + 1 + 1) 78 #[.string ⟨#[]⟩, .string ⟨#[]⟩, .string ⟨#[]⟩, .int .u64 0, .int .i64 0, .int .i64 0, .int .i64 0, .int .i64 0, .int .i64 0, .int .i64 0, .int .i64 0, .int .i64 0, .int .i64 0, .int .i64 0, .int .i64 0] := Blk.kept (Br6.is (by first | rfl | simp)) hb1
    replace Br7 : Blk v1 (w.heap.size + 1 + 1 + 1) 54 #[.slice none 0 0, .int .i64 0, .int .i64 0, .int .i64 0, .int .i64 0] := Blk.kept (Br7.is (by first | rfl | simp)) hb1
    replace Bf : Blk v1 (Q) 78 #[.string (strOfNums m.s), .string (strOfNums t), .string ⟨#[]⟩, .int .u64 n.n, .int .i64 label, .int .i64 0, .int .i64 0, .int .i64 m.line, .int .i64 m.col, .int .i64 n.line, .int .i64 n.col, .int .i64 pl.1, .int .i64 pl.2, .int .i64 mkl, .int .i64 mkc] := Blk.kept (Bf.is (by first | rfl | simp)) hb1
    clear xs ys xr6 yr6 xr7 yr7 xf yf
    have hs1 := hb1.size
    try simp at hs1
    have xs := Bs.cellF
    have ys := Bs.frz
    replace zs : w.heap.size < v1.heap.size := by omega
    have xr6 := Br6.cellF
    have yr6 := Br6.frz
    replace zr6 : w.heap.size + 1 + 1 < v1.heap.size := by omega
    have xr7 := Br7.cellF
    have yr7 := Br7.frz
    replace zr7 : w.heap.size + 1 + 1 + 1 < v1.heap.size := by omega
    have xf := Bf.cellF
    have yf := Bf.frz
    replace zf : Q < v1.heap.size := by omega
    replace hb1 : Hid (Below w.heap.size w v1) := hid (bl_then (by have := hb0.out; exact blBy) hb1)
    rw [hi]
    go_wp2_with fail
    refine (eatR w0 b o2 c2 s2 _ ⟨#[91]⟩ [91] rfl (by decide) hst2.out (bl_then HB.out (by have := hb1.out; exact blBy))).mono ?_
    rintro e v2 ⟨⟨s3, o3, c3, he3, rfl, hst3⟩, hb2⟩
    replace Bs : Blk v2 (w.heap.size) 54 #[.slice (some ⟨b, o2, none⟩) s2.l.length c2, .int .i64 s2.cd, .int .i64 0, .int .i64 s2.ln, .int .i64 s2.cl] := Blk.kept (Bs.is (by first | rfl | simp)) hb2
    replace Br6 : Blk v2 (w.heap.size + 1 + 1) 78 #[.string ⟨#[]⟩, .string ⟨#[]⟩, .string ⟨#[]⟩, .int .u64 0, .int .i64 0, .int .i64 0, .int .i64 0, .int .i64 0, .int .i64 0, .int .i64 0, .int .i64 0, .int .i64 0, .int .i64 0, .int .i64 0, .int .i64 0] := Blk.kept (Br6.is (by first | rfl | simp)) hb2
    replace Br7 : Blk v2 (w.heap.size + 1 + 1 + 1) 54 #[.slice none 0 0, .int .i64 0, .int .i64 0, .int .i64 0, .int .i64 0] := Blk.kept (Br7.is (by first | rfl | simp)) hb2
    replace Bf : Blk v2 (Q) 78 #[.string (strOfNums m.s), .string (strOfNums t), .string ⟨#[]⟩, .int .u64 n.n, .int .i64 label, .int .i64 0, .int .i64 0, .int .i64 m.line, .int .i64 m.col, .int .i64 n.line, .int .i64 n.col, .int .i64 pl.1, .int .i64 pl.2, .int .i64 mkl, .int .i64 mkc] := Blk.kept (Bf.is (by first | rfl | simp)) hb2
    clear xs ys xr6 yr6 xr7 yr7 xf yf
    have hs2 := hb2.size
    try simp at hs2
    have xs := Bs.cellF
    have ys := Bs.frz
    replace zs : w.heap.size < v2.heap.size := by omega
    have xr6 := Br6.cellF
    have yr6 := Br6.frz
    replace zr6 : w.heap.size + 1 + 1 < v2.heap.size := by omega
    have xr7 := Br7.cellF
    have yr7 := Br7.frz
    replace zr7 : w.heap.size + 1 + 1 + 1 < v2.heap.size := by omega
    have xf := Bf.cellF
    have yf := Bf.frz
    replace zf : Q < v2.heap.size := by omega
    replace hb2 : Hid (Below w.heap.size w v2) := hid (bl_then (by have := hb1.out; exact blBy) hb2)
    replace hst3 := hid hst3
    have hcd3 : Hid (s3.cd = 0) := hid (by rw [he3.out]; unfold eatM; rw [if_pos (is_parts hi).1, if_pos hi]; exact (is_parts hi).1)
    have k3 : (s3.cd == 0) = true := by rw [hcd3.out]; rfl
    obtain ⟨ua, uc, d0, d1, d2, d3, d4, d5, hrd, hBb⟩ := hst3.out.head (bl_then HB.out hb2.out)
    replace hrd := hid hrd
    have hBw : b < w.heap.size := Nat.lt_of_lt_of_le hBb HB.out.size
    have nb1 : b ≠ w.heap.size := by omega
    have nb2 : w.heap.size ≠ b := by omega
    have hp3 : (0 : Int) < (s3.l.length : Int) := by have := hst3.out.pos.1; omega
    go_wp2_with fail
    refine (atR _ (hdM s3) ua uc).mono ?_
    rintro e v3 ⟨rfl, hb3⟩
    replace Bs : Blk v3 (w.heap.size) 54 #[.slice (some ⟨b, o3, none⟩) s3.l.length c3, .int .i64 s3.cd, .int .i64 0, .int .i64 s3.ln, .int .i64 s3.cl] := Blk.kept ((blkall5 Bs).is (by first | rfl | simp)) hb3
    replace Br6 : Blk v3 (w.heap.size + 1 + 1) 78 #[.string ⟨#[]⟩, .string ⟨#[]⟩, .string ⟨#[]⟩, .int .u64 0, .int .i64 0, .int .i64 0, .int .i64 0, .int .i64 0, .int .i64 0, .int .i64 0, .int .i64 0, .int .i64 0, .int .i64 0, .int .i64 0, .int .i64 0] := Blk.kept ((blkoth5 Br6 (show w.heap.size + 1 + 1 ≠ w.heap.size by omega)).is (by first | rfl | simp)) hb3
    replace Br7 : Blk v3 (w.heap.size + 1 + 1 + 1) 54 #[.slice none 0 0, .int .i64 0, .int .i64 0, .int .i64 0, .int .i64 0] := Blk.kept ((blkoth5 Br7 (show w.heap.size + 1 + 1 + 1 ≠ w.heap.size by omega)).is (by first | rfl | simp)) hb3
    replace Bf : Blk v3 (Q) 78 #[.string (strOfNums m.s), .string (strOfNums t), .string ⟨#[]⟩, .int .u64 n.n, .int .i64 label, .int .i64 0, .int .i64 0, .int .i64 m.line, .int .i64 m.col, .int .i64 n.line, .int .i64 n.col, .int .i64 pl.1, .int .i64 pl.2, .int .i64 mkl, .int .i64 mkc] := Blk.kept ((blkoth5 Bf (show Q ≠ w.heap.size by omega)).is (by first | rfl | simp)) hb3
    clear xs ys xr6 yr6 xr7 yr7 xf yf
    have hs3 := hb3.size
    try simp at hs3
    have xs := Bs.cellF
    have ys := Bs.frz
    replace zs : w.heap.size < v3.heap.size := by omega
    have xr6 := Br6.cellF
    have yr6 := Br6.frz
    replace zr6 : w.heap.size + 1 + 1 < v3.heap.size := by omega
    have xr7 := Br7.cellF
    have yr7 := Br7.frz
    replace zr7 : w.heap.size + 1 + 1 + 1 < v3.heap.size := by omega
    have xf := Bf.cellF
    have yf := Bf.frz
    replace zf : Q < v3.heap.size := by omega
    replace hb3 : Hid (Below w.heap.size w v3) := hid (bl_then (by have := hb2.out; exact blBy) hb3)
    clear d0 d1 d2 d3 d4 d5 k3
    go_wp2_with fail
    refine (eatR w0 b o3 c3 s3 _ ⟨#[112, 97, 99, 107, 101, 100]⟩ wPacked rfl (by decide) hst3.out (bl_then HB.out (by have := hb3.out; exact blBy))).mono ?_
    rintro e v4 ⟨⟨s4, o4, c4, he4, rfl, hst4⟩, hb4⟩
    replace Bs : Blk v4 (w.heap.size) 54 #[.slice (some ⟨b, o3, none⟩) s3.l.length c3, .int .i64 s3.cd, .int .i64 0, .int .i64 s3.ln, .int .i64 s3.cl] := Blk.kept (((Bs.other (show w.heap.size ≠ Q by omega) _).other (show w.heap.size ≠ Q by omega) _).is (by first | rfl | simp)) hb4
    replace Br6 : Blk v4 (w.heap.size + 1 + 1) 78 #[.string ⟨#[]⟩, .string ⟨#[]⟩, .string ⟨#[]⟩, .int .u64 0, .int .i64 0, .int .i64 0, .int .i64 0, .int .i64 0, .int .i64 0, .int .i64 0, .int .i64 0, .int .i64 0, .int .i64 0, .int .i64 0, .int .i64 0] := Blk.kept (((Br6.other (show w.heap.size + 1 + 1 ≠ Q by omega) _).other (show w.heap.size + 1 + 1 ≠ Q by omega) _).is (by first | rfl | simp)) hb4
    replace Br7 : Blk v4 (w.heap.size + 1 + 1 + 1) 54 #[.slice none 0 0, .int .i64 0, .int .i64 0, .int .i64 0, .int .i64 0] := Blk.kept (((Br7.other (show w.heap.size + 1 + 1 + 1 ≠ Q by omega) _).other (show w.heap.size + 1 + 1 + 1 ≠ Q by omega) _).is (by first | rfl | simp)) hb4
    replace Bf : Blk v4 (Q) 78 #[.string (strOfNums m.s), .string (strOfNums t), .string ⟨#[]⟩, .int .u64 n.n, .int .i64 label, .int .i64 0, .int .i64 0, .int .i64 m.line, .int .i64 m.col, .int .i64 n.line, .int .i64 n.col, .int .i64 pl.1, .int .i64 pl.2, .int .i64 (hdM s3).line, .int .i64 (hdM s3).col] := Blk.kept (((Bf.set 13 _).set 14 _).is (by first | rfl | simp)) hb4
    clear xs ys xr6 yr6 xr7 yr7 xf yf
    have hs4 := hb4.size
    try simp at hs4
    have xs := Bs.cellF
    have ys := Bs.frz
    replace zs : w.heap.size < v4.heap.size := by omega
    have xr6 := Br6.cellF
    have yr6 := Br6.frz
    replace zr6 : w.heap.size + 1 + 1 < v4.heap.size := by omega
    have xr7 := Br7.cellF
    have yr7 := Br7.frz
    replace zr7 : w.heap.size + 1 + 1 + 1 < v4.heap.size := by omega
    have xf := Bf.cellF
    have yf := Bf.frz
    replace zf : Q < v4.heap.size := by omega
    replace hb4 : Hid (Below w.heap.size w v4) := hid (bl_then (by have := hb3.out; exact blBy) hb4)
    replace hst4 := hid hst4
    go_wp2_with fail
    refine (eatR w0 b o4 c4 s4 _ ⟨#[61]⟩ [61] rfl (by decide) hst4.out (bl_then HB.out (by have := hb4.out; exact blBy))).mono ?_
    rintro e v5 ⟨⟨s5, o5, c5, he5, rfl, hst5⟩, hb5⟩
    replace Bs : Blk v5 (w.heap.size) 54 #[.slice (some ⟨b, o4, none⟩) s4.l.length c4, .int .i64 s4.cd, .int .i64 0, .int .i64 s4.ln, .int .i64 s4.cl] := Blk.kept ((blkall5 Bs).is (by first | rfl | simp)) hb5
    replace Br6 : Blk v5 (w.heap.size + 1 + 1) 78 #[.string ⟨#[]⟩, .string ⟨#[]⟩, .string ⟨#[]⟩, .int .u64 0, .int .i64 0, .int .i64 0, .int .i64 0, .int .i64 0, .int .i64 0, .int .i64 0, .int .i64 0, .int .i64 0, .int .i64 0, .int .i64 0, .int .i64 0] := Blk.kept ((blkoth5 Br6 (show w.heap.size + 1 + 1 ≠ w.heap.size by omega)).is (by first | rfl | simp)) hb5
    replace Br7 : Blk v5 (w.heap.size + 1 + 1 + 1) 54 #[.slice none 0 0, .int .i64 0, .int .i64 0, .int .i64 0, .int .i64 0] := Blk.kept ((blkoth5 Br7 (show w.heap.size + 1 + 1 + 1 ≠ w.heap.size by omega)).is (by first | rfl | simp)) hb5
    replace Bf : Blk v5 (Q) 78 #[.string (strOfNums m.s), .string (strOfNums t), .string ⟨#[]⟩, .int .u64 n.n, .int .i64 label, .int .i64 0, .int .i64 0, .int .i64 m.line, .int .i64 m.col, .int .i64 n.line, .int .i64 n.col, .int .i64 pl.1, .int .i64 pl.2, .int .i64 (hdM s3).line, .int .i64 (hdM s3).col] := Blk.kept ((blkoth5 Bf (show Q ≠ w.heap.size by omega)).is (by first | rfl | simp)) hb5
    clear xs ys xr6 yr6 xr7 yr7 xf yf
    have hs5 := hb5.size
    try simp at hs5
    have xs := Bs.cellF
    have ys := Bs.frz
    replace zs : w.heap.size < v5.heap.size := by omega
    have xr6 := Br6.cellF
    have yr6 := Br6.frz
    replace zr6 : w.heap.size + 1 + 1 < v5.heap.size := by omega
    have xr7 := Br7.cellF
    have yr7 := Br7.frz
    replace zr7 : w.heap.size + 1 + 1 + 1 < v5.heap.size := by omega
    have xf := Bf.cellF
    have yf := Bf.frz
    replace zf : Q < v5.heap.size := by omega
    replace hb5 : Hid (Below w.heap.size w v5) := hid (bl_then (by have := hb4.out; exact blBy) hb5)
    replace hst5 := hid hst5
    have HIS := hid hi
    clear hi
    go_wp2_with fail
    refine (isR w0 b o5 c5 s5 _ ⟨#[116, 114, 117, 101]⟩ wTrue rfl (by decide) hst5.out (bl_then HB.out (by have := hb5.out; exact blBy))).mono ?_
    rintro e v6 ⟨rfl, hb6⟩
    replace Bs : Blk v6 (w.heap.size) 54 #[.slice (some ⟨b, o5, none⟩) s5.l.length c5, .int .i64 s5.cd, .int .i64 0, .int .i64 s5.ln, .int .i64 s5.cl] := Blk.kept ((blkall5 Bs).is (by first | rfl | simp)) hb6
    replace Br6 : Blk v6 (w.heap.size + 1 + 1) 78 #[.string ⟨#[]⟩, .string ⟨#[]⟩, .string ⟨#[]⟩, .int .u64 0, .int .i64 0, .int .i64 0, .int .i64 0, .int .i64 0, .int .i64 0, .int .i64 0, .int .i64 0, .int .i64 0, .int .i64 0, .int .i64 0, .int .i64 0] := Blk.kept ((blkoth5 Br6 (show w.heap.size + 1 + 1 ≠ w.heap.size by omega)).is (by first | rfl | simp)) hb6
    replace Br7 : Blk v6 (w.heap.size + 1 + 1 + 1) 54 #[.slice none 0 0, .int .i64 0, .int .i64 0, .int .i64 0, .int .i64 0] := Blk.kept ((blkoth5 Br7 (show w.heap.size + 1 + 1 + 1 ≠ w.heap.size by omega)).is (by first | rfl | simp)) hb6
    replace Bf : Blk v6 (Q) 78 #[.string (strOfNums m.s), .string (strOfNums t), .string ⟨#[]⟩, .int .u64 n.n, .int .i64 label, .int .i64 0, .int .i64 0, .int .i64 m.line, .int .i64 m.col, .int .i64 n.line, .int .i64 n.col, .int .i64 pl.1, .int .i64 pl.2, .int .i64 (hdM s3).line, .int .i64 (hdM s3).col] := Blk.kept ((blkoth5 Bf (show Q ≠ w.heap.size by omega)).is (by first | rfl | simp)) hb6
    clear xs ys xr6 yr6 xr7 yr7 xf yf
    have hs6 := hb6.size
    try simp at hs6
    have xs := Bs.cellF
    have ys := Bs.frz
    replace zs : w.heap.size < v6.heap.size := by omega
    have xr6 := Br6.cellF
    have yr6 := Br6.frz
    replace zr6 : w.heap.size + 1 + 1 < v6.heap.size := by omega
    have xr7 := Br7.cellF
    have yr7 := Br7.frz
    replace zr7 : w.heap.size + 1 + 1 + 1 < v6.heap.size := by omega
    have xf := Bf.cellF
    have yf := Bf.frz
    replace zf : Q < v6.heap.size := by omega
    replace hb6 : Hid (Below w.heap.size w v6) := hid (bl_then (by have := hb5.out; exact blBy) hb6)
    cases hj : isM s5 wTrue with
    | true =>
      go_wp2_with fail
      refine (eatR w0 b o5 c5 s5 _ ⟨#[116, 114, 117, 101]⟩ wTrue rfl (by decide) hst5.out (bl_then HB.out (by have := hb6.out; exact blBy))).mono ?_
      rintro e v7 ⟨⟨s6, o6, c6, he6, rfl, hst6⟩, hb7⟩
      replace Bs : Blk v7 (w.heap.size) 54 #[.slice (some ⟨b, o5, none⟩) s5.l.length c5, .int .i64 s5.cd, .int .i64 0, .int .i64 s5.ln, .int .i64 s5.cl] := Blk.kept ((Bs.other (show w.heap.size ≠ Q by omega) _).is (by first | rfl | simp)) hb7
      replace Br6 : Blk v7 (w.heap.size + 1 + 1) 78 #[.string ⟨#[]⟩, .string ⟨#[]⟩, .string ⟨#[]⟩, .int .u64 0, .int .i64 0, .int .i64 0, .int .i64 0, .int .i64 0, .int .i64 0, .int .i64 0, .int .i64 0, .int .i64 0, .int .i64 0, .int .i64 0, .int .i64 0] := Blk.kept ((Br6.other (show w.heap.size + 1 + 1 ≠ Q by omega) _).is (by first | rfl | simp)) hb7
      replace Br7 : Blk v7 (w.heap.size + 1 + 1 + 1) 54 #[.slice none 0 0, .int .i64 0, .int .i64 0, .int .i64 0, .int .i64 0] := Blk.kept ((Br7.other (show w.heap.size + 1 + 1 + 1 ≠ Q by omega) _).is (by first | rfl | simp)) hb7
      replace Bf : Blk v7 (Q) 78 #[.string (strOfNums m.s), .string (strOfNums t), .string ⟨#[]⟩, .int .u64 n.n, .int .i64 label, .int .i64 1, .int .i64 0, .int .i64 m.line, .int .i64 m.col, .int .i64 n.line, .int .i64 n.col, .int .i64 pl.1, .int .i64 pl.2, .int .i64 (hdM s3).line, .int .i64 (hdM s3).col] := Blk.kept ((Bf.set 5 _).is (by first | rfl | simp)) hb7
      clear xs ys xr6 yr6 xr7 yr7 xf yf
      have hs7 := hb7.size
      try simp at hs7
      have xs := Bs.cellF
      have ys := Bs.frz
      replace zs : w.heap.size < v7.heap.size := by omega
      have xr6 := Br6.cellF
      have yr6 := Br6.frz
      replace zr6 : w.heap.size + 1 + 1 < v7.heap.size := by omega
      have xr7 := Br7.cellF
      have yr7 := Br7.frz
      replace zr7 : w.heap.size + 1 + 1 + 1 < v7.heap.size := by omega
      have xf := Bf.cellF
      have yf := Bf.frz
      replace zf : Q < v7.heap.size := by omega
      replace hb7 : Hid (Below w.heap.size w v7) := hid (bl_then (by have := hb6.out; exact blBy) hb7)
      replace hst6 := hid hst6
      go_wp2_with fail
      refine (eatR w0 b o6 c6 s6 _ ⟨#[93]⟩ [93] rfl (by decide) hst6.out (bl_then HB.out (by have := hb7.out; exact blBy))).mono ?_
      rintro e v8 ⟨⟨s7, o7, c7, he7, rfl, hst7⟩, hb8⟩
      replace Bs : Blk v8 (w.heap.size) 54 #[.slice (some ⟨b, o6, none⟩) s6.l.length c6, .int .i64 s6.cd, .int .i64 0, .int .i64 s6.ln, .int .i64 s6.cl] := Blk.kept ((blkall5 Bs).is (by first | rfl | simp)) hb8
      replace Br6 : Blk v8 (w.heap.size + 1 + 1) 78 #[.string ⟨#[]⟩, .string ⟨#[]⟩, .string ⟨#[]⟩, .int .u64 0, .int .i64 0, .int .i64 0, .int .i64 0, .int .i64 0, .int .i64 0, .int .i64 0, .int .i64 0, .int .i64 0, .int .i64 0, .int .i64 0, .int .i64 0] := Blk.kept ((blkoth5 Br6 (show w.heap.size + 1 + 1 ≠ w.heap.size by omega)).is (by first | rfl | simp)) hb8
      replace Br7 : Blk v8 (w.heap.size + 1 + 1 + 1) 54 #[.slice none 0 0, .int .i64 0, .int .i64 0, .int .i64 0, .int .i64 0] := Blk.kept ((blkoth5 Br7 (show w.heap.size + 1 + 1 + 1 ≠ w.heap.size by omega)).is (by first | rfl | simp)) hb8
      replace Bf : Blk v8 (Q) 78 #[.string (strOfNums m.s), .string (strOfNums t), .string ⟨#[]⟩, .int .u64 n.n, .int .i64 label, .int .i64 1, .int .i64 0, .int .i64 m.line, .int .i64 m.col, .int .i64 n.line, .int .i64 n.col, .int .i64 pl.1, .int .i64 pl.2, .int .i64 (hdM s3).line, .int .i64 (hdM s3).col] := Blk.kept ((blkoth5 Bf (show Q ≠ w.heap.size by omega)).is (by first | rfl | simp)) hb8
      clear xs ys xr6 yr6 xr7 yr7 xf yf
      have hs8 := hb8.size
      try simp at hs8
      have xs := Bs.cellF
      have ys := Bs.frz
      replace zs : w.heap.size < v8.heap.size := by omega
      have xr6 := Br6.cellF
      have yr6 := Br6.frz
      replace zr6 : w.heap.size + 1 + 1 < v8.heap.size := by omega
      have xr7 := Br7.cellF
      have yr7 := Br7.frz
      replace zr7 : w.heap.size + 1 + 1 + 1 < v8.heap.size := by omega
      have xf := Bf.cellF
      have yf := Bf.frz
      replace zf : Q < v8.heap.size := by omega
      replace hb8 : Hid (Below w.heap.size w v8) := hid (bl_then (by have := hb7.out; exact blBy) hb8)
      replace hst7 := hid hst7
      have HOP : Hid (opM (fld [] t pl m n label (mkl, mkc)) s2 = ({ (fld [] t pl m n label (mkl, mkc)) with mat := atM (hdM s3), packed := 1 }, s7)) := hid (by unfold opM opB opA; rw [← he3.out, ← he4.out, ← he5.out, if_pos hj, if_pos hcd3.out, ← he6.out, ← he7.out])
      go_wp2_with fail
      have Es : Blk (((((v8.setCell ⟨w.heap.size, 0, none⟩ (.slice (some ⟨b, o7, none⟩) s7.l.length c7)).setCell ⟨w.heap.size, 1, none⟩ (.int .i64 s7.cd)).setCell ⟨w.heap.size, 2, none⟩ (.int .i64 0)).setCell ⟨w.heap.size, 3, none⟩ (.int .i64 s7.ln)).setCell ⟨w.heap.size, 4, none⟩ (.int .i64 s7.cl)) (w.heap.size) 54 #[.slice (some ⟨b, o7, none⟩) s7.l.length c7, .int .i64 s7.cd, .int .i64 0, .int .i64 s7.ln, .int .i64 s7.cl] := ((blkall5 Bs).is (by first | rfl | simp))
      have Er6 : Blk (((((v8.setCell ⟨w.heap.size, 0, none⟩ (.slice (some ⟨b, o7, none⟩) s7.l.length c7)).setCell ⟨w.heap.size, 1, none⟩ (.int .i64 s7.cd)).setCell ⟨w.heap.size, 2, none⟩ (.int .i64 0)).setCell ⟨w.heap.size, 3, none⟩ (.int .i64 s7.ln)).setCell ⟨w.heap.size, 4, none⟩ (.int .i64 s7.cl)) (w.heap.size + 1 + 1) 78 #[.string ⟨#[]⟩, .string ⟨#[]⟩, .string ⟨#[]⟩, .int .u64 0, .int .i64 0, .int .i64 0, .int .i64 0, .int .i64 0, .int .i64 0, .int .i64 0, .int .i64 0, .int .i64 0, .int .i64 0, .int .i64 0, .int .i64 0] := ((blkoth5 Br6 (show w.heap.size + 1 + 1 ≠ w.heap.size by omega)).is (by first | rfl | simp))
      have Er7 : Blk (((((v8.setCell ⟨w.heap.size, 0, none⟩ (.slice (some ⟨b, o7, none⟩) s7.l.length c7)).setCell ⟨w.heap.size, 1, none⟩ (.int .i64 s7.cd)).setCell ⟨w.heap.size, 2, none⟩ (.int .i64 0)).setCell ⟨w.heap.size, 3, none⟩ (.int .i64 s7.ln)).setCell ⟨w.heap.size, 4, none⟩ (.int .i64 s7.cl)) (w.heap.size + 1 + 1 + 1) 54 #[.slice none 0 0, .int .i64 0, .int .i64 0, .int .i64 0, .int .i64 0] := ((blkoth5 Br7 (show w.heap.size + 1 + 1 + 1 ≠ w.heap.size by omega)).is (by first | rfl | simp))
      have Ef : Blk (((((v8.setCell ⟨w.heap.size, 0, none⟩ (.slice (some ⟨b, o7, none⟩) s7.l.length c7)).setCell ⟨w.heap.size, 1, none⟩ (.int .i64 s7.cd)).setCell ⟨w.heap.size, 2, none⟩ (.int .i64 0)).setCell ⟨w.heap.size, 3, none⟩ (.int .i64 s7.ln)).setCell ⟨w.heap.size, 4, none⟩ (.int .i64 s7.cl)) (Q) 78 #[.string (strOfNums m.s), .string (strOfNums t), .string ⟨#[]⟩, .int .u64 n.n, .int .i64 label, .int .i64 1, .int .i64 0, .int .i64 m.line, .int .i64 m.col, .int .i64 n.line, .int .i64 n.col, .int .i64 pl.1, .int .i64 pl.2, .int .i64 (hdM s3).line, .int .i64 (hdM s3).col] := ((blkoth5 Bf (show Q ≠ w.heap.size by omega)).is (by first | rfl | simp))
      have hbz : Hid (Below w.heap.size w (((((v8.setCell ⟨w.heap.size, 0, none⟩ (.slice (some ⟨b, o7, none⟩) s7.l.length c7)).setCell ⟨w.heap.size, 1, none⟩ (.int .i64 s7.cd)).setCell ⟨w.heap.size, 2, none⟩ (.int .i64 0)).setCell ⟨w.heap.size, 3, none⟩ (.int .i64 s7.ln)).setCell ⟨w.heap.size, 4, none⟩ (.int .i64 s7.cl))) := hid (by have := hb8.out; exact blBy)
      clear Bs xs ys Br6 xr6 yr6 Br7 xr7 yr7 Bf xf yf
      have zzs := Es.lt
      have zzr6 := Er6.lt
      have zzr7 := Er7.lt
      have zzf := Ef.lt
      generalize (((((v8.setCell ⟨w.heap.size, 0, none⟩ (.slice (some ⟨b, o7, none⟩) s7.l.length c7)).setCell ⟨w.heap.size, 1, none⟩ (.int .i64 s7.cd)).setCell ⟨w.heap.size, 2, none⟩ (.int .i64 0)).setCell ⟨w.heap.size, 3, none⟩ (.int .i64 s7.ln)).setCell ⟨w.heap.size, 4, none⟩ (.int .i64 s7.cl)) = wz at *
      have Bs := Es
      clear Es
      have xs := Bs.cellF
      have ys := Bs.frz
      have Br6 := Er6
      clear Er6
      have xr6 := Br6.cellF
      have yr6 := Br6.frz
      have Br7 := Er7
      clear Er7
      have xr7 := Br7.cellF
      have yr7 := Br7.frz
      have Bf := Ef
      clear Ef
      have xf := Bf.cellF
      have yf := Bf.frz
      go_region_held3 (fun W => (W.cell? ⟨Q, 0, none⟩ = some (.string (strOfNums m.s)) ∧ W.cell? ⟨Q, 1, none⟩ = some (.string (strOfNums t)) ∧ W.cell? ⟨Q, 2, none⟩ = some (.string ⟨#[]⟩) ∧ W.cell? ⟨Q, 3, none⟩ = some (.int .u64 n.n) ∧ W.cell? ⟨Q, 4, none⟩ = some (.int .i64 label) ∧ W.cell? ⟨Q, 5, none⟩ = some (.int .i64 1) ∧ W.cell? ⟨Q, 6, none⟩ = some (.int .i64 0) ∧ W.cell? ⟨Q, 7, none⟩ = some (.int .i64 m.line) ∧ W.cell? ⟨Q, 8, none⟩ = some (.int .i64 m.col) ∧ W.cell? ⟨Q, 9, none⟩ = some (.int .i64 n.line) ∧ W.cell? ⟨Q, 10, none⟩ = some (.int .i64 n.col) ∧ W.cell? ⟨Q, 11, none⟩ = some (.int .i64 pl.1) ∧ W.cell? ⟨Q, 12, none⟩ = some (.int .i64 pl.2) ∧ W.cell? ⟨Q, 13, none⟩ = some (.int .i64 (hdM s3).line) ∧ W.cell? ⟨Q, 14, none⟩ = some (.int .i64 (hdM s3).col)) ∧ (W.cell? ⟨w.heap.size, 0, none⟩ = some (.slice (some ⟨b, o7, none⟩) s7.l.length c7) ∧ W.cell? ⟨w.heap.size, 1, none⟩ = some (.int .i64 s7.cd) ∧ W.cell? ⟨w.heap.size, 2, none⟩ = some (.int .i64 0) ∧ W.cell? ⟨w.heap.size, 3, none⟩ = some (.int .i64 s7.ln) ∧ W.cell? ⟨w.heap.size, 4, none⟩ = some (.int .i64 s7.cl))) ((refine ⟨blkc15 (t := 78) ?_, blkc5 (t := 54) ?_⟩ <;> (with_reducible repeat (first | exact Vfu9.out | exact Vsu9.out | exact Bf | exact Bs | refine Blk.oth ?_ | refine Blk.kept ?_ (below_drew1 _) | refine Blk.kept ?_ (below_alloc _))); done)) (first | (go_at_call 18; refine (eatR w0 b o7 c7 s7 _ ⟨#[59]⟩ [59] rfl (by decide) hst7.out (bl_then HB.out (by have := hbz.out; exact blBy))).mono ?_; rintro e u9 ⟨⟨s9, o9, c9, he9, rfl, hst9⟩, hbu⟩; have Vfu9 : Hid (Blk u9 (Q) 78 #[.string (strOfNums m.s), .string (strOfNums t), .string ⟨#[]⟩, .int .u64 n.n, .int .i64 label, .int .i64 1, .int .i64 0, .int .i64 m.line, .int .i64 m.col, .int .i64 n.line, .int .i64 n.col, .int .i64 pl.1, .int .i64 pl.2, .int .i64 (hdM s3).line, .int .i64 (hdM s3).col]) := hid (Blk.kept (by (with_reducible repeat (first | exact Bf | refine Blk.oth ?_ | refine Blk.kept ?_ (below_drew1 _) | refine Blk.kept ?_ (below_alloc _))); done) hbu); have Vsu9 : Hid (Blk u9 (w.heap.size) 54 #[.slice (some ⟨b, o7, none⟩) s7.l.length c7, .int .i64 s7.cd, .int .i64 0, .int .i64 s7.ln, .int .i64 s7.cl]) := hid (Blk.kept (by (with_reducible repeat (first | exact Bs | refine Blk.oth ?_ | refine Blk.kept ?_ (below_drew1 _) | refine Blk.kept ?_ (below_alloc _))); done) hbu); have Vr7u9 : Hid (Blk u9 (w.heap.size + 1 + 1 + 1) 54 #[.slice none 0 0, .int .i64 0, .int .i64 0, .int .i64 0, .int .i64 0]) := hid (Blk.kept (by (with_reducible repeat (first | exact Br7 | refine Blk.oth ?_ | refine Blk.kept ?_ (below_drew1 _) | refine Blk.kept ?_ (below_alloc _))); done) hbu); have vx7 := Vr7u9.out.cellF; have vy7 := Vr7u9.out.frz; have Vr6u9 : Hid (Blk u9 (w.heap.size + 1 + 1) 78 #[.string ⟨#[]⟩, .string ⟨#[]⟩, .string ⟨#[]⟩, .int .u64 0, .int .i64 0, .int .i64 0, .int .i64 0, .int .i64 0, .int .i64 0, .int .i64 0, .int .i64 0, .int .i64 0, .int .i64 0, .int .i64 0, .int .i64 0]) := hid (Blk.kept (by (with_reducible repeat (first | exact Br6 | refine Blk.oth ?_ | refine Blk.kept ?_ (below_drew1 _) | refine Blk.kept ?_ (below_alloc _))); done) hbu); have vx6 := Vr6u9.out.cellF; have vy6 := Vr6u9.out.frz; have hsu := hbu.size; (try simp at hsu); have hbb : Hid (Below w.heap.size w u9) := hid (bl_then (by have := hbz.out; exact blBy) hbu); replace hst9 := hid hst9; clear hbu))
      all_goals go_wp2
      all_goals exact bodyPost_ret (v := .tuple #[.agg #[.string (strOfNums m.s), .string (strOfNums t), .string ⟨#[]⟩, .int .u64 n.n, .int .i64 label, .int .i64 1, .int .i64 0, .int .i64 m.line, .int .i64 m.col, .int .i64 n.line, .int .i64 n.col, .int .i64 pl.1, .int .i64 pl.2, .int .i64 (hdM s3).line, .int .i64 (hdM s3).col], .agg #[.slice (some ⟨b, o9, none⟩) s9.l.length c9, .int .i64 s9.cd, .int .i64 0, .int .i64 s9.ln, .int .i64 s9.cl]]) (by simp [results, Tryz.results81, go_sem, vx7, vx6, zr6, zr7]) rfl ⟨⟨{ (fld [] t pl m n label (mkl, mkc)) with mat := atM (hdM s3), packed := 1 }, s9, o9, c9, hid (by unfold fldM; rw [HFA.out, if_pos ⟨hl.out, HIS.out⟩, HOP.out]), hid (by unfold fldM; rw [HFA.out, if_pos ⟨hl.out, HIS.out⟩, HOP.out]; exact he9.out), rfl, hst9⟩, by have := hbb.out; exact blBy⟩
    | false =>
      go_wp2_with fail
      refine (eatR w0 b o5 c5 s5 _ ⟨#[102, 97, 108, 115, 101]⟩ wFalse rfl (by decide) hst5.out (bl_then HB.out (by have := hb6.out; exact blBy))).mono ?_
      rintro e v7 ⟨⟨s6, o6, c6, he6, rfl, hst6⟩, hb7⟩
      replace Bs : Blk v7 (w.heap.size) 54 #[.slice (some ⟨b, o5, none⟩) s5.l.length c5, .int .i64 s5.cd, .int .i64 0, .int .i64 s5.ln, .int .i64 s5.cl] := Blk.kept ((Bs.other (show w.heap.size ≠ Q by omega) _).is (by first | rfl | simp)) hb7
      replace Br6 : Blk v7 (w.heap.size + 1 + 1) 78 #[.string ⟨#[]⟩, .string ⟨#[]⟩, .string ⟨#[]⟩, .int .u64 0, .int .i64 0, .int .i64 0, .int .i64 0, .int .i64 0, .int .i64 0, .int .i64 0, .int .i64 0, .int .i64 0, .int .i64 0, .int .i64 0, .int .i64 0] := Blk.kept ((Br6.other (show w.heap.size + 1 + 1 ≠ Q by omega) _).is (by first | rfl | simp)) hb7
      replace Br7 : Blk v7 (w.heap.size + 1 + 1 + 1) 54 #[.slice none 0 0, .int .i64 0, .int .i64 0, .int .i64 0, .int .i64 0] := Blk.kept ((Br7.other (show w.heap.size + 1 + 1 + 1 ≠ Q by omega) _).is (by first | rfl | simp)) hb7
      replace Bf : Blk v7 (Q) 78 #[.string (strOfNums m.s), .string (strOfNums t), .string ⟨#[]⟩, .int .u64 n.n, .int .i64 label, .int .i64 2, .int .i64 0, .int .i64 m.line, .int .i64 m.col, .int .i64 n.line, .int .i64 n.col, .int .i64 pl.1, .int .i64 pl.2, .int .i64 (hdM s3).line, .int .i64 (hdM s3).col] := Blk.kept ((Bf.set 5 _).is (by first | rfl | simp)) hb7
      clear xs ys xr6 yr6 xr7 yr7 xf yf
      have hs7 := hb7.size
      try simp at hs7
      have xs := Bs.cellF
      have ys := Bs.frz
      replace zs : w.heap.size < v7.heap.size := by omega
      have xr6 := Br6.cellF
      have yr6 := Br6.frz
      replace zr6 : w.heap.size + 1 + 1 < v7.heap.size := by omega
      have xr7 := Br7.cellF
      have yr7 := Br7.frz
      replace zr7 : w.heap.size + 1 + 1 + 1 < v7.heap.size := by omega
      have xf := Bf.cellF
      have yf := Bf.frz
      replace zf : Q < v7.heap.size := by omega
      replace hb7 : Hid (Below w.heap.size w v7) := hid (bl_then (by have := hb6.out; exact blBy) hb7)
      replace hst6 := hid hst6
      go_wp2_with fail
      refine (eatR w0 b o6 c6 s6 _ ⟨#[93]⟩ [93] rfl (by decide) hst6.out (bl_then HB.out (by have := hb7.out; exact blBy))).mono ?_
      rintro e v8 ⟨⟨s7, o7, c7, he7, rfl, hst7⟩, hb8⟩
      replace Bs : Blk v8 (w.heap.size) 54 #[.slice (some ⟨b, o6, none⟩) s6.l.length c6, .int .i64 s6.cd, .int .i64 0, .int .i64 s6.ln, .int .i64 s6.cl] := Blk.kept ((blkall5 Bs).is (by first | rfl | simp)) hb8
      replace Br6 : Blk v8 (w.heap.size + 1 + 1) 78 #[.string ⟨#[]⟩, .string ⟨#[]⟩, .string ⟨#[]⟩, .int .u64 0, .int .i64 0, .int .i64 0, .int .i64 0, .int .i64 0, .int .i64 0, .int .i64 0, .int .i64 0, .int .i64 0, .int .i64 0, .int .i64 0, .int .i64 0] := Blk.kept ((blkoth5 Br6 (show w.heap.size + 1 + 1 ≠ w.heap.size by omega)).is (by first | rfl | simp)) hb8
      replace Br7 : Blk v8 (w.heap.size + 1 + 1 + 1) 54 #[.slice none 0 0, .int .i64 0, .int .i64 0, .int .i64 0, .int .i64 0] := Blk.kept ((blkoth5 Br7 (show w.heap.size + 1 + 1 + 1 ≠ w.heap.size by omega)).is (by first | rfl | simp)) hb8
      replace Bf : Blk v8 (Q) 78 #[.string (strOfNums m.s), .string (strOfNums t), .string ⟨#[]⟩, .int .u64 n.n, .int .i64 label, .int .i64 2, .int .i64 0, .int .i64 m.line, .int .i64 m.col, .int .i64 n.line, .int .i64 n.col, .int .i64 pl.1, .int .i64 pl.2, .int .i64 (hdM s3).line, .int .i64 (hdM s3).col] := Blk.kept ((blkoth5 Bf (show Q ≠ w.heap.size by omega)).is (by first | rfl | simp)) hb8
      clear xs ys xr6 yr6 xr7 yr7 xf yf
      have hs8 := hb8.size
      try simp at hs8
      have xs := Bs.cellF
      have ys := Bs.frz
      replace zs : w.heap.size < v8.heap.size := by omega
      have xr6 := Br6.cellF
      have yr6 := Br6.frz
      replace zr6 : w.heap.size + 1 + 1 < v8.heap.size := by omega
      have xr7 := Br7.cellF
      have yr7 := Br7.frz
      replace zr7 : w.heap.size + 1 + 1 + 1 < v8.heap.size := by omega
      have xf := Bf.cellF
      have yf := Bf.frz
      replace zf : Q < v8.heap.size := by omega
      replace hb8 : Hid (Below w.heap.size w v8) := hid (bl_then (by have := hb7.out; exact blBy) hb8)
      replace hst7 := hid hst7
      have HOP : Hid (opM (fld [] t pl m n label (mkl, mkc)) s2 = ({ (fld [] t pl m n label (mkl, mkc)) with mat := atM (hdM s3), packed := 2 }, s7)) := hid (by unfold opM opB opA; rw [← he3.out, ← he4.out, ← he5.out, if_neg (by rw [hj]; decide), if_pos hcd3.out, ← he6.out, ← he7.out])
      go_wp2_with fail
      have Es : Blk (((((v8.setCell ⟨w.heap.size, 0, none⟩ (.slice (some ⟨b, o7, none⟩) s7.l.length c7)).setCell ⟨w.heap.size, 1, none⟩ (.int .i64 s7.cd)).setCell ⟨w.heap.size, 2, none⟩ (.int .i64 0)).setCell ⟨w.heap.size, 3, none⟩ (.int .i64 s7.ln)).setCell ⟨w.heap.size, 4, none⟩ (.int .i64 s7.cl)) (w.heap.size) 54 #[.slice (some ⟨b, o7, none⟩) s7.l.length c7, .int .i64 s7.cd, .int .i64 0, .int .i64 s7.ln, .int .i64 s7.cl] := ((blkall5 Bs).is (by first | rfl | simp))
      have Er6 : Blk (((((v8.setCell ⟨w.heap.size, 0, none⟩ (.slice (some ⟨b, o7, none⟩) s7.l.length c7)).setCell ⟨w.heap.size, 1, none⟩ (.int .i64 s7.cd)).setCell ⟨w.heap.size, 2, none⟩ (.int .i64 0)).setCell ⟨w.heap.size, 3, none⟩ (.int .i64 s7.ln)).setCell ⟨w.heap.size, 4, none⟩ (.int .i64 s7.cl)) (w.heap.size + 1 + 1) 78 #[.string ⟨#[]⟩, .string ⟨#[]⟩, .string ⟨#[]⟩, .int .u64 0, .int .i64 0, .int .i64 0, .int .i64 0, .int .i64 0, .int .i64 0, .int .i64 0, .int .i64 0, .int .i64 0, .int .i64 0, .int .i64 0, .int .i64 0] := ((blkoth5 Br6 (show w.heap.size + 1 + 1 ≠ w.heap.size by omega)).is (by first | rfl | simp))
      have Er7 : Blk (((((v8.setCell ⟨w.heap.size, 0, none⟩ (.slice (some ⟨b, o7, none⟩) s7.l.length c7)).setCell ⟨w.heap.size, 1, none⟩ (.int .i64 s7.cd)).setCell ⟨w.heap.size, 2, none⟩ (.int .i64 0)).setCell ⟨w.heap.size, 3, none⟩ (.int .i64 s7.ln)).setCell ⟨w.heap.size, 4, none⟩ (.int .i64 s7.cl)) (w.heap.size + 1 + 1 + 1) 54 #[.slice none 0 0, .int .i64 0, .int .i64 0, .int .i64 0, .int .i64 0] := ((blkoth5 Br7 (show w.heap.size + 1 + 1 + 1 ≠ w.heap.size by omega)).is (by first | rfl | simp))
      have Ef : Blk (((((v8.setCell ⟨w.heap.size, 0, none⟩ (.slice (some ⟨b, o7, none⟩) s7.l.length c7)).setCell ⟨w.heap.size, 1, none⟩ (.int .i64 s7.cd)).setCell ⟨w.heap.size, 2, none⟩ (.int .i64 0)).setCell ⟨w.heap.size, 3, none⟩ (.int .i64 s7.ln)).setCell ⟨w.heap.size, 4, none⟩ (.int .i64 s7.cl)) (Q) 78 #[.string (strOfNums m.s), .string (strOfNums t), .string ⟨#[]⟩, .int .u64 n.n, .int .i64 label, .int .i64 2, .int .i64 0, .int .i64 m.line, .int .i64 m.col, .int .i64 n.line, .int .i64 n.col, .int .i64 pl.1, .int .i64 pl.2, .int .i64 (hdM s3).line, .int .i64 (hdM s3).col] := ((blkoth5 Bf (show Q ≠ w.heap.size by omega)).is (by first | rfl | simp))
      have hbz : Hid (Below w.heap.size w (((((v8.setCell ⟨w.heap.size, 0, none⟩ (.slice (some ⟨b, o7, none⟩) s7.l.length c7)).setCell ⟨w.heap.size, 1, none⟩ (.int .i64 s7.cd)).setCell ⟨w.heap.size, 2, none⟩ (.int .i64 0)).setCell ⟨w.heap.size, 3, none⟩ (.int .i64 s7.ln)).setCell ⟨w.heap.size, 4, none⟩ (.int .i64 s7.cl))) := hid (by have := hb8.out; exact blBy)
      clear Bs xs ys Br6 xr6 yr6 Br7 xr7 yr7 Bf xf yf
      have zzs := Es.lt
      have zzr6 := Er6.lt
      have zzr7 := Er7.lt
      have zzf := Ef.lt
      generalize (((((v8.setCell ⟨w.heap.size, 0, none⟩ (.slice (some ⟨b, o7, none⟩) s7.l.length c7)).setCell ⟨w.heap.size, 1, none⟩ (.int .i64 s7.cd)).setCell ⟨w.heap.size, 2, none⟩ (.int .i64 0)).setCell ⟨w.heap.size, 3, none⟩ (.int .i64 s7.ln)).setCell ⟨w.heap.size, 4, none⟩ (.int .i64 s7.cl)) = wz at *
      have Bs := Es
      clear Es
      have xs := Bs.cellF
      have ys := Bs.frz
      have Br6 := Er6
      clear Er6
      have xr6 := Br6.cellF
      have yr6 := Br6.frz
      have Br7 := Er7
      clear Er7
      have xr7 := Br7.cellF
      have yr7 := Br7.frz
      have Bf := Ef
      clear Ef
      have xf := Bf.cellF
      have yf := Bf.frz
      go_region_held3 (fun W => (W.cell? ⟨Q, 0, none⟩ = some (.string (strOfNums m.s)) ∧ W.cell? ⟨Q, 1, none⟩ = some (.string (strOfNums t)) ∧ W.cell? ⟨Q, 2, none⟩ = some (.string ⟨#[]⟩) ∧ W.cell? ⟨Q, 3, none⟩ = some (.int .u64 n.n) ∧ W.cell? ⟨Q, 4, none⟩ = some (.int .i64 label) ∧ W.cell? ⟨Q, 5, none⟩ = some (.int .i64 2) ∧ W.cell? ⟨Q, 6, none⟩ = some (.int .i64 0) ∧ W.cell? ⟨Q, 7, none⟩ = some (.int .i64 m.line) ∧ W.cell? ⟨Q, 8, none⟩ = some (.int .i64 m.col) ∧ W.cell? ⟨Q, 9, none⟩ = some (.int .i64 n.line) ∧ W.cell? ⟨Q, 10, none⟩ = some (.int .i64 n.col) ∧ W.cell? ⟨Q, 11, none⟩ = some (.int .i64 pl.1) ∧ W.cell? ⟨Q, 12, none⟩ = some (.int .i64 pl.2) ∧ W.cell? ⟨Q, 13, none⟩ = some (.int .i64 (hdM s3).line) ∧ W.cell? ⟨Q, 14, none⟩ = some (.int .i64 (hdM s3).col)) ∧ (W.cell? ⟨w.heap.size, 0, none⟩ = some (.slice (some ⟨b, o7, none⟩) s7.l.length c7) ∧ W.cell? ⟨w.heap.size, 1, none⟩ = some (.int .i64 s7.cd) ∧ W.cell? ⟨w.heap.size, 2, none⟩ = some (.int .i64 0) ∧ W.cell? ⟨w.heap.size, 3, none⟩ = some (.int .i64 s7.ln) ∧ W.cell? ⟨w.heap.size, 4, none⟩ = some (.int .i64 s7.cl))) ((refine ⟨blkc15 (t := 78) ?_, blkc5 (t := 54) ?_⟩ <;> (with_reducible repeat (first | exact Vfu9.out | exact Vsu9.out | exact Bf | exact Bs | refine Blk.oth ?_ | refine Blk.kept ?_ (below_drew1 _) | refine Blk.kept ?_ (below_alloc _))); done)) (first | (go_at_call 18; refine (eatR w0 b o7 c7 s7 _ ⟨#[59]⟩ [59] rfl (by decide) hst7.out (bl_then HB.out (by have := hbz.out; exact blBy))).mono ?_; rintro e u9 ⟨⟨s9, o9, c9, he9, rfl, hst9⟩, hbu⟩; have Vfu9 : Hid (Blk u9 (Q) 78 #[.string (strOfNums m.s), .string (strOfNums t), .string ⟨#[]⟩, .int .u64 n.n, .int .i64 label, .int .i64 2, .int .i64 0, .int .i64 m.line, .int .i64 m.col, .int .i64 n.line, .int .i64 n.col, .int .i64 pl.1, .int .i64 pl.2, .int .i64 (hdM s3).line, .int .i64 (hdM s3).col]) := hid (Blk.kept (by (with_reducible repeat (first | exact Bf | refine Blk.oth ?_ | refine Blk.kept ?_ (below_drew1 _) | refine Blk.kept ?_ (below_alloc _))); done) hbu); have Vsu9 : Hid (Blk u9 (w.heap.size) 54 #[.slice (some ⟨b, o7, none⟩) s7.l.length c7, .int .i64 s7.cd, .int .i64 0, .int .i64 s7.ln, .int .i64 s7.cl]) := hid (Blk.kept (by (with_reducible repeat (first | exact Bs | refine Blk.oth ?_ | refine Blk.kept ?_ (below_drew1 _) | refine Blk.kept ?_ (below_alloc _))); done) hbu); have Vr7u9 : Hid (Blk u9 (w.heap.size + 1 + 1 + 1) 54 #[.slice none 0 0, .int .i64 0, .int .i64 0, .int .i64 0, .int .i64 0]) := hid (Blk.kept (by (with_reducible repeat (first | exact Br7 | refine Blk.oth ?_ | refine Blk.kept ?_ (below_drew1 _) | refine Blk.kept ?_ (below_alloc _))); done) hbu); have vx7 := Vr7u9.out.cellF; have vy7 := Vr7u9.out.frz; have Vr6u9 : Hid (Blk u9 (w.heap.size + 1 + 1) 78 #[.string ⟨#[]⟩, .string ⟨#[]⟩, .string ⟨#[]⟩, .int .u64 0, .int .i64 0, .int .i64 0, .int .i64 0, .int .i64 0, .int .i64 0, .int .i64 0, .int .i64 0, .int .i64 0, .int .i64 0, .int .i64 0, .int .i64 0]) := hid (Blk.kept (by (with_reducible repeat (first | exact Br6 | refine Blk.oth ?_ | refine Blk.kept ?_ (below_drew1 _) | refine Blk.kept ?_ (below_alloc _))); done) hbu); have vx6 := Vr6u9.out.cellF; have vy6 := Vr6u9.out.frz; have hsu := hbu.size; (try simp at hsu); have hbb : Hid (Below w.heap.size w u9) := hid (bl_then (by have := hbz.out; exact blBy) hbu); replace hst9 := hid hst9; clear hbu))
      all_goals go_wp2
      all_goals exact bodyPost_ret (v := .tuple #[.agg #[.string (strOfNums m.s), .string (strOfNums t), .string ⟨#[]⟩, .int .u64 n.n, .int .i64 label, .int .i64 2, .int .i64 0, .int .i64 m.line, .int .i64 m.col, .int .i64 n.line, .int .i64 n.col, .int .i64 pl.1, .int .i64 pl.2, .int .i64 (hdM s3).line, .int .i64 (hdM s3).col], .agg #[.slice (some ⟨b, o9, none⟩) s9.l.length c9, .int .i64 s9.cd, .int .i64 0, .int .i64 s9.ln, .int .i64 s9.cl]]) (by simp [results, Tryz.results81, go_sem, vx7, vx6, zr6, zr7]) rfl ⟨⟨{ (fld [] t pl m n label (mkl, mkc)) with mat := atM (hdM s3), packed := 2 }, s9, o9, c9, hid (by unfold fldM; rw [HFA.out, if_pos ⟨hl.out, HIS.out⟩, HOP.out]), hid (by unfold fldM; rw [HFA.out, if_pos ⟨hl.out, HIS.out⟩, HOP.out]; exact he9.out), rfl, hst9⟩, by have := hbb.out; exact blBy⟩
end
end Go.Proofs.YtidimdbnnnpplaaGreatDoor
