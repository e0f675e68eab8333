/-
  The document's form of a field.
  The document's form of a map's field.
-/
import Derived.Test.YtidimdbnnnpplaaGreatDoorCRT
import Derived.Test.YtidimdbnnnpplaaGreatDoorRFcd
import Derived.Test.YtidimdbnnnpplaaGreatDoorCPE
import Derived.Deep.CutRange
namespace Go.Proofs.YtidimdbnnnpplaaGreatDoor
open Go.RowKit
set_option maxRecDepth 1000000
set_option linter.unusedVariables false
set_option linter.unusedSimpArgs false
set_option maxHeartbeats 8000000
section
variable (w0 : World) (b off cap : Nat) (s : PS) (w : World)
theorem fieldR (label : Int) (mark : Int × Int) (h : StR w0 b off cap s) (hb : Below w0.heap.size w0 w) : Calls Tryz.prog 81 #[.agg #[.slice (some ⟨b, off, none⟩) s.l.length cap, .int .i64 s.cd, .int .i64 0, .int .i64 s.ln, .int .i64 s.cl], .int .i64 label, .agg #[.int .i64 mark.1, .int .i64 mark.2]] w fun e w' => (∃ f s' o c, Hid (f = (fldM s label mark).1) ∧ Hid (s' = (fldM s label mark).2) ∧ e = .returned (.tuple #[.agg #[.string (strOfNums f.name), .string (strOfNums f.ty), .string (strOfNums f.key), .int .u64 f.num, .int .i64 f.label, .int .i64 f.packed, .int .i64 f.oneof, .int .i64 f.at1.1, .int .i64 f.at1.2, .int .i64 f.nat1.1, .int .i64 f.nat1.2, .int .i64 f.tat.1, .int .i64 f.tat.2, .int .i64 f.mat.1, .int .i64 f.mat.2], .agg #[.slice (some ⟨b, o, none⟩) s'.l.length c, .int .i64 s'.cd, .int .i64 0, .int .i64 s'.ln, .int .i64 s'.cl]]) ∧ Hid (StR w0 b o c s')) ∧ Below w.heap.size w w' := by
  by_cases hl : label = 4
  · exact fieldR_ab w0 b off cap s w label mark (.inl hl) h hb
  · cases hi : isM (fldA s label mark).2 [91] with
    | false => exact fieldR_ab w0 b off cap s w label mark (.inr hi) h hb
    | true => exact fieldR_cd w0 b off cap s w label mark hl hi h hb
end
set_option maxHeartbeats 6000000
section
variable (w0 : World) (b off cap : Nat) (s : PS) (w : World)
theorem pairsR (h : StR w0 b off cap s) (hb : Below w0.heap.size w0 w) : Calls Tryz.prog 82 #[.agg #[.slice (some ⟨b, off, none⟩) s.l.length cap, .int .i64 s.cd, .int .i64 0, .int .i64 s.ln, .int .i64 s.cl]] w fun e w' => (∃ f s' o c, Hid (f = (prsM s).1) ∧ Hid (s' = (prsM s).2) ∧ e = .returned (.tuple #[.agg #[.string (strOfNums f.name), .string (strOfNums f.ty), .string (strOfNums f.key), .int .u64 f.num, .int .i64 f.label, .int .i64 f.packed, .int .i64 f.oneof, .int .i64 f.at1.1, .int .i64 f.at1.2, .int .i64 f.nat1.1, .int .i64 f.nat1.2, .int .i64 f.tat.1, .int .i64 f.tat.2, .int .i64 f.mat.1, .int .i64 f.mat.2], .agg #[.slice (some ⟨b, o, none⟩) s'.l.length c, .int .i64 s'.cd, .int .i64 0, .int .i64 s'.ln, .int .i64 s'.cl]]) ∧ Hid (StR w0 b o c s')) ∧ Below w.heap.size w w' := by
  have HB := hid hb
  have HW := hid h
  clear h hb
  have hb0 : Hid (Below w.heap.size w w) := hid (Below.refl _ _)
  go_enter Tryz.func82, Tryz.ntmps82
  go_wp2_with fail
  refine (eatR w0 b off cap s _ ⟨#[109, 97, 112]⟩ wMap rfl (by decide) HW.out (bl_then HB.out (by have := hb0.out; exact blBy))).mono ?_
  rintro e w1 ⟨⟨s1, o1, c1, he1, rfl, hst1⟩, hb1⟩
  have Bs : Blk w1 (w.heap.size) 54 #[.slice (some ⟨b, off, none⟩) s.l.length cap, .int .i64 s.cd, .int .i64 0, .int .i64 s.ln, .int .i64 s.cl] := Blk.kept ((((Blk.newAt (by simp)).kept (below_alloc _)).kept (below_alloc _)).is (by first | rfl | simp)) hb1
  have Br6 : Blk w1 (w.heap.size + 1) 78 #[.string ⟨#[]⟩, .string ⟨#[]⟩, .string ⟨#[]⟩, .int .u64 0, .int .i64 0, .int .i64 0, .int .i64 0, .int .i64 0, .int .i64 0, .int .i64 0, .int .i64 0, .int .i64 0, .int .i64 0, .int .i64 0, .int .i64 0] := Blk.kept (((Blk.newAt (by simp)).kept (below_alloc _)).is (by first | rfl | simp)) hb1
  have Br7 : Blk w1 (w.heap.size + 1 + 1) 54 #[.slice none 0 0, .int .i64 0, .int .i64 0, .int .i64 0, .int .i64 0] := Blk.kept ((Blk.newAt (by simp)).is (by first | rfl | simp)) hb1
  have hs1 := hb1.size
  try simp at hs1
  have xs := Bs.cellF
  have ys := Bs.frz
  have zs : w.heap.size < w1.heap.size := by omega
  have xr6 := Br6.cellF
  have yr6 := Br6.frz
  have zr6 : w.heap.size + 1 < w1.heap.size := by omega
  have xr7 := Br7.cellF
  have yr7 := Br7.frz
  have zr7 : w.heap.size + 1 + 1 < w1.heap.size := by omega
  replace hb1 : Hid (Below w.heap.size w w1) := hid (bl_then (by have := hb0.out; exact blBy) hb1)
  replace hst1 := hid hst1
  go_wp2_with fail
  refine (eatR w0 b o1 c1 s1 _ ⟨#[60]⟩ [60] rfl (by decide) hst1.out (bl_then HB.out (by have := hb1.out; exact blBy))).mono ?_
  rintro e w2 ⟨⟨s2, o2, c2, he2, rfl, hst2⟩, hb2⟩
  replace Bs : Blk w2 (w.heap.size) 54 #[.slice (some ⟨b, o1, none⟩) s1.l.length c1, .int .i64 s1.cd, .int .i64 0, .int .i64 s1.ln, .int .i64 s1.cl] := Blk.kept ((blkall5 Bs).is (by first | rfl | simp)) hb2
  replace Br6 : Blk w2 (w.heap.size + 1) 78 #[.string ⟨#[]⟩, .string ⟨#[]⟩, .string ⟨#[]⟩, .int .u64 0, .int .i64 0, .int .i64 0, .int .i64 0, .int .i64 0, .int .i64 0, .int .i64 0, .int .i64 0, .int .i64 0, .int .i64 0, .int .i64 0, .int .i64 0] := Blk.kept ((blkoth5 Br6 (show w.heap.size + 1 ≠ w.heap.size by omega)).is (by first | rfl | simp)) hb2
  replace Br7 : Blk w2 (w.heap.size + 1 + 1) 54 #[.slice none 0 0, .int .i64 0, .int .i64 0, .int .i64 0, .int .i64 0] := Blk.kept ((blkoth5 Br7 (show w.heap.size + 1 + 1 ≠ w.heap.size by omega)).is (by first | rfl | simp)) hb2
  clear xs ys xr6 yr6 xr7 yr7
  have hs2 := hb2.size
  try simp at hs2
  have xs := Bs.cellF
  have ys := Bs.frz
  replace zs : w.heap.size < w2.heap.size := by omega
  have xr6 := Br6.cellF
  have yr6 := Br6.frz
  replace zr6 : w.heap.size + 1 < w2.heap.size := by omega
  have xr7 := Br7.cellF
  have yr7 := Br7.frz
  replace zr7 : w.heap.size + 1 + 1 < w2.heap.size := by omega
  replace hb2 : Hid (Below w.heap.size w w2) := hid (bl_then (by have := hb1.out; exact blBy) hb2)
  replace hst2 := hid hst2
  go_wp2_with fail
  refine (takeR w0 b o2 c2 s2 _ 1 (by decide) (by decide) hst2.out (bl_then HB.out (by have := hb2.out; exact blBy))).mono ?_
  rintro e w3 ⟨⟨kk, s3, qa, qc, o3, c3, hkk, he3, rfl, hr3, hok3, hst3⟩, hb3⟩
  replace Bs : Blk w3 (w.heap.size) 54 #[.slice (some ⟨b, o2, none⟩) s2.l.length c2, .int .i64 s2.cd, .int .i64 0, .int .i64 s2.ln, .int .i64 s2.cl] := Blk.kept ((blkall5 Bs).is (by first | rfl | simp)) hb3
  replace Br6 : Blk w3 (w.heap.size + 1) 78 #[.string ⟨#[]⟩, .string ⟨#[]⟩, .string ⟨#[]⟩, .int .u64 0, .int .i64 0, .int .i64 0, .int .i64 0, .int .i64 0, .int .i64 0, .int .i64 0, .int .i64 0, .int .i64 0, .int .i64 0, .int .i64 0, .int .i64 0] := Blk.kept ((blkoth5 Br6 (show w.heap.size + 1 ≠ w.heap.size by omega)).is (by first | rfl | simp)) hb3
  replace Br7 : Blk w3 (w.heap.size + 1 + 1) 54 #[.slice none 0 0, .int .i64 0, .int .i64 0, .int .i64 0, .int .i64 0] := Blk.kept ((blkoth5 Br7 (show w.heap.size + 1 + 1 ≠ w.heap.size by omega)).is (by first | rfl | simp)) hb3
  clear xs ys xr6 yr6 xr7 yr7
  have hs3 := hb3.size
  try simp at hs3
  have xs := Bs.cellF
  have ys := Bs.frz
  replace zs : w.heap.size < w3.heap.size := by omega
  have xr6 := Br6.cellF
  have yr6 := Br6.frz
  replace zr6 : w.heap.size + 1 < w3.heap.size := by omega
  have xr7 := Br7.cellF
  have yr7 := Br7.frz
  replace zr7 : w.heap.size + 1 + 1 < w3.heap.size := by omega
  replace hb3 : Hid (Below w.heap.size w w3) := hid (bl_then (by have := hb2.out; exact blBy) hb3)
  go_wp2_with fail
  refine (eatR w0 b o3 c3 s3 _ ⟨#[44]⟩ [44] rfl (by decide) hst3.out (bl_then HB.out (by have := hb3.out; exact blBy))).mono ?_
  rintro e w4 ⟨⟨s4, o4, c4, he4, rfl, hst4⟩, hb4⟩
  replace Bs : Blk w4 (w.heap.size) 54 #[.slice (some ⟨b, o3, none⟩) s3.l.length c3, .int .i64 s3.cd, .int .i64 0, .int .i64 s3.ln, .int .i64 s3.cl] := Blk.kept (((blkall5 Bs).kept (below_alloc _)).is (by first | rfl | simp)) hb4
  replace Br6 : Blk w4 (w.heap.size + 1) 78 #[.string ⟨#[]⟩, .string ⟨#[]⟩, .string ⟨#[]⟩, .int .u64 0, .int .i64 0, .int .i64 0, .int .i64 0, .int .i64 0, .int .i64 0, .int .i64 0, .int .i64 0, .int .i64 0, .int .i64 0, .int .i64 0, .int .i64 0] := Blk.kept (((blkoth5 Br6 (show w.heap.size + 1 ≠ w.heap.size by omega)).kept (below_alloc _)).is (by first | rfl | simp)) hb4
  replace Br7 : Blk w4 (w.heap.size + 1 + 1) 54 #[.slice none 0 0, .int .i64 0, .int .i64 0, .int .i64 0, .int .i64 0] := Blk.kept (((blkoth5 Br7 (show w.heap.size + 1 + 1 ≠ w.heap.size by omega)).kept (below_alloc _)).is (by first | rfl | simp)) hb4
  have Bk : Blk w4 (w3.heap.size) 58 #[.int .i64 kk.kind, .string (strOfNums kk.s), .int .u64 kk.n, .slice qa kk.b.length qc, .int .i64 kk.line, .int .i64 kk.col] := Blk.kept ((Blk.newAt (by simp)).is (by first | rfl | simp)) hb4
  clear xs ys xr6 yr6 xr7 yr7
  have hs4 := hb4.size
  try simp at hs4
  have xs := Bs.cellF
  have ys := Bs.frz
  replace zs : w.heap.size < w4.heap.size := by omega
  have xr6 := Br6.cellF
  have yr6 := Br6.frz
  replace zr6 : w.heap.size + 1 < w4.heap.size := by omega
  have xr7 := Br7.cellF
  have yr7 := Br7.frz
  replace zr7 : w.heap.size + 1 + 1 < w4.heap.size := by omega
  have xk := Bk.cellF
  have yk := Bk.frz
  have zk : w3.heap.size < w4.heap.size := by omega
  replace hb4 : Hid (Below w.heap.size w w4) := hid (bl_then (by have := hb3.out; exact blBy) hb4)
  replace hst4 := hid hst4
  go_wp2_with fail
  refine (typR w0 b o4 c4 s4 _ hst4.out (bl_then HB.out (by have := hb4.out; exact blBy))).mono ?_
  rintro e w5 ⟨⟨t, pl, s5, o5, c5, ht, hpl, he5, rfl, hbd, hst5⟩, hb5⟩
  replace Bs : Blk w5 (w.heap.size) 54 #[.slice (some ⟨b, o4, none⟩) s4.l.length c4, .int .i64 s4.cd, .int .i64 0, .int .i64 s4.ln, .int .i64 s4.cl] := Blk.kept ((blkall5 Bs).is (by first | rfl | simp)) hb5
  replace Br6 : Blk w5 (w.heap.size + 1) 78 #[.string ⟨#[]⟩, .string ⟨#[]⟩, .string ⟨#[]⟩, .int .u64 0, .int .i64 0, .int .i64 0, .int .i64 0, .int .i64 0, .int .i64 0, .int .i64 0, .int .i64 0, .int .i64 0, .int .i64 0, .int .i64 0, .int .i64 0] := Blk.kept ((blkoth5 Br6 (show w.heap.size + 1 ≠ w.heap.size by omega)).is (by first | rfl | simp)) hb5
  replace Br7 : Blk w5 (w.heap.size + 1 + 1) 54 #[.slice none 0 0, .int .i64 0, .int .i64 0, .int .i64 0, .int .i64 0] := Blk.kept ((blkoth5 Br7 (show w.heap.size + 1 + 1 ≠ w.heap.size by omega)).is (by first | rfl | simp)) hb5
  replace Bk : Blk w5 (w3.heap.size) 58 #[.int .i64 kk.kind, .string (strOfNums kk.s), .int .u64 kk.n, .slice qa kk.b.length qc, .int .i64 kk.line, .int .i64 kk.col] := Blk.kept ((blkoth5 Bk (show w3.heap.size ≠ w.heap.size by omega)).is (by first | rfl | simp)) hb5
  clear xs ys xr6 yr6 xr7 yr7 xk yk
  have hs5 := hb5.size
  try simp at hs5
  have xs := Bs.cellF
  have ys := Bs.frz
  replace zs : w.heap.size < w5.heap.size := by omega
  have xr6 := Br6.cellF
  have yr6 := Br6.frz
  replace zr6 : w.heap.size + 1 < w5.heap.size := by omega
  have xr7 := Br7.cellF
  have yr7 := Br7.frz
  replace zr7 : w.heap.size + 1 + 1 < w5.heap.size := by omega
  have xk := Bk.cellF
  have yk := Bk.frz
  replace zk : w3.heap.size < w5.heap.size := by omega
  replace hb5 : Hid (Below w.heap.size w w5) := hid (bl_then (by have := hb4.out; exact blBy) hb5)
  go_wp2_with fail
  refine (eatR w0 b o5 c5 s5 _ ⟨#[62]⟩ [62] rfl (by decide) hst5.out (bl_then HB.out (by have := hb5.out; exact blBy))).mono ?_
  rintro e w6 ⟨⟨s6, o6, c6, he6, rfl, hst6⟩, hb6⟩
  replace Bs : Blk w6 (w.heap.size) 54 #[.slice (some ⟨b, o5, none⟩) s5.l.length c5, .int .i64 s5.cd, .int .i64 0, .int .i64 s5.ln, .int .i64 s5.cl] := Blk.kept (((blkall5 Bs).kept (below_alloc _)).is (by first | rfl | simp)) hb6
  replace Br6 : Blk w6 (w.heap.size + 1) 78 #[.string ⟨#[]⟩, .string ⟨#[]⟩, .string ⟨#[]⟩, .int .u64 0, .int .i64 0, .int .i64 0, .int .i64 0, .int .i64 0, .int .i64 0, .int .i64 0, .int .i64 0, .int .i64 0, .int .i64 0, .int .i64 0, .int .i64 0] := Blk.kept (((blkoth5 Br6 (show w.heap.size + 1 ≠ w.heap.size by omega)).kept (below_alloc _)).is (by first | rfl | simp)) hb6
  replace Br7 : Blk w6 (w.heap.size + 1 + 1) 54 #[.slice none 0 0, .int .i64 0, .int .i64 0, .int .i64 0, .int .i64 0] := Blk.kept (((blkoth5 Br7 (show w.heap.size + 1 + 1 ≠ w.heap.size by omega)).kept (below_alloc _)).is (by first | rfl | simp)) hb6
  replace Bk : Blk w6 (w3.heap.size) 58 #[.int .i64 kk.kind, .string (strOfNums kk.s), .int .u64 kk.n, .slice qa kk.b.length qc, .int .i64 kk.line, .int .i64 kk.col] := Blk.kept (((blkoth5 Bk (show w3.heap.size ≠ w.heap.size by omega)).kept (below_alloc _)).is (by first | rfl | simp)) hb6
  have Bp : Blk w6 (w5.heap.size) 64 #[.int .i64 pl.1, .int .i64 pl.2] := Blk.kept ((Blk.newAt (by simp)).is (by first | rfl | simp)) hb6
  clear xs ys xr6 yr6 xr7 yr7 xk yk
  have hs6 := hb6.size
  try simp at hs6
  have xs := Bs.cellF
  have ys := Bs.frz
  replace zs : w.heap.size < w6.heap.size := by omega
  have xr6 := Br6.cellF
  have yr6 := Br6.frz
  replace zr6 : w.heap.size + 1 < w6.heap.size := by omega
  have xr7 := Br7.cellF
  have yr7 := Br7.frz
  replace zr7 : w.heap.size + 1 + 1 < w6.heap.size := by omega
  have xk := Bk.cellF
  have yk := Bk.frz
  replace zk : w3.heap.size < w6.heap.size := by omega
  have xp := Bp.cellF
  have yp := Bp.frz
  have zp : w5.heap.size < w6.heap.size := by omega
  replace hb6 : Hid (Below w.heap.size w w6) := hid (bl_then (by have := hb5.out; exact blBy) hb6)
  replace hst6 := hid hst6
  go_wp2_with fail
  refine (namedR w0 b o6 c6 s6 _ hst6.out (bl_then HB.out (by have := hb6.out; exact blBy))).mono ?_
  rintro e w7 ⟨⟨m, n, s7, sa, sc, ta, tc, o7, c7, hm, hn, he7, rfl, hkm, hkn, hst7⟩, hb7⟩
  replace Bs : Blk w7 (w.heap.size) 54 #[.slice (some ⟨b, o6, none⟩) s6.l.length c6, .int .i64 s6.cd, .int .i64 0, .int .i64 s6.ln, .int .i64 s6.cl] := Blk.kept ((blkall5 Bs).is (by first | rfl | simp)) hb7
  replace Br6 : Blk w7 (w.heap.size + 1) 78 #[.string ⟨#[]⟩, .string ⟨#[]⟩, .string ⟨#[]⟩, .int .u64 0, .int .i64 0, .int .i64 0, .int .i64 0, .int .i64 0, .int .i64 0, .int .i64 0, .int .i64 0, .int .i64 0, .int .i64 0, .int .i64 0, .int .i64 0] := Blk.kept ((blkoth5 Br6 (show w.heap.size + 1 ≠ w.heap.size by omega)).is (by first | rfl | simp)) hb7
  replace Br7 : Blk w7 (w.heap.size + 1 + 1) 54 #[.slice none 0 0, .int .i64 0, .int .i64 0, .int .i64 0, .int .i64 0] := Blk.kept ((blkoth5 Br7 (show w.heap.size + 1 + 1 ≠ w.heap.size by omega)).is (by first | rfl | simp)) hb7
  replace Bk : Blk w7 (w3.heap.size) 58 #[.int .i64 kk.kind, .string (strOfNums kk.s), .int .u64 kk.n, .slice qa kk.b.length qc, .int .i64 kk.line, .int .i64 kk.col] := Blk.kept ((blkoth5 Bk (show w3.heap.size ≠ w.heap.size by omega)).is (by first | rfl | simp)) hb7
  replace Bp : Blk w7 (w5.heap.size) 64 #[.int .i64 pl.1, .int .i64 pl.2] := Blk.kept ((blkoth5 Bp (show w5.heap.size ≠ w.heap.size by omega)).is (by first | rfl | simp)) hb7
  clear xs ys xr6 yr6 xr7 yr7 xk yk xp yp
  have hs7 := hb7.size
  try simp at hs7
  have xs := Bs.cellF
  have ys := Bs.frz
  replace zs : w.heap.size < w7.heap.size := by omega
  have xr6 := Br6.cellF
  have yr6 := Br6.frz
  replace zr6 : w.heap.size + 1 < w7.heap.size := by omega
  have xr7 := Br7.cellF
  have yr7 := Br7.frz
  replace zr7 : w.heap.size + 1 + 1 < w7.heap.size := by omega
  have xk := Bk.cellF
  have yk := Bk.frz
  replace zk : w3.heap.size < w7.heap.size := by omega
  have xp := Bp.cellF
  have yp := Bp.frz
  replace zp : w5.heap.size < w7.heap.size := by omega
  replace hb7 : Hid (Below w.heap.size w w7) := hid (bl_then (by have := hb6.out; exact blBy) hb7)
  have HPR : Hid (prsM s = ((fld kk.s t pl m n 5 (atM kk)), eatM s7 [59])) := hid (by unfold prsM prC prB prA; rw [← he1.out, ← he2.out, ← hkk.out, ← he3.out, ← he4.out, ← ht.out, ← hpl.out, ← he5.out, ← he6.out, ← hm.out, ← hn.out, ← he7.out])
  go_upto_region 8 with fail
  go_cut [9] from 35 to 49 (fun s12 wc => ∃ Q, s12 = .pointer (some ⟨Q, 0, none⟩) ∧ Hid (Below w.heap.size w wc) ∧ Hid (w7.heap.size ≤ Q ∧ Q < wc.heap.size) ∧ Hid (Blk wc Q 78 #[.string (strOfNums m.s), .string (strOfNums t), .string (strOfNums kk.s), .int .u64 n.n, .int .i64 5, .int .i64 0, .int .i64 0, .int .i64 m.line, .int .i64 m.col, .int .i64 n.line, .int .i64 n.col, .int .i64 pl.1, .int .i64 pl.2, .int .i64 kk.line, .int .i64 kk.col]) ∧ Hid (Blk wc (w.heap.size) 54 #[.slice (some ⟨b, o7, none⟩) s7.l.length c7, .int .i64 s7.cd, .int .i64 0, .int .i64 s7.ln, .int .i64 s7.cl]) ∧ Hid (Blk wc (w.heap.size + 1) 78 #[.string ⟨#[]⟩, .string ⟨#[]⟩, .string ⟨#[]⟩, .int .u64 0, .int .i64 0, .int .i64 0, .int .i64 0, .int .i64 0, .int .i64 0, .int .i64 0, .int .i64 0, .int .i64 0, .int .i64 0, .int .i64 0, .int .i64 0]) ∧ Hid (Blk wc (w.heap.size + 1 + 1) 54 #[.slice none 0 0, .int .i64 0, .int .i64 0, .int .i64 0, .int .i64 0]))
  case first =>
    have Es : Blk (((((((w7.setCell ⟨w.heap.size, 0, none⟩ (.slice (some ⟨b, o7, none⟩) s7.l.length c7)).setCell ⟨w.heap.size, 1, none⟩ (.int .i64 s7.cd)).setCell ⟨w.heap.size, 2, none⟩ (.int .i64 0)).setCell ⟨w.heap.size, 3, none⟩ (.int .i64 s7.ln)).setCell ⟨w.heap.size, 4, none⟩ (.int .i64 s7.cl)).alloc (.cells #[.int .i64 m.kind, .string (strOfNums m.s), .int .u64 m.n, .slice sa m.b.length sc, .int .i64 m.line, .int .i64 m.col] 58)).alloc (.cells #[.int .i64 n.kind, .string (strOfNums n.s), .int .u64 n.n, .slice ta n.b.length tc, .int .i64 n.line, .int .i64 n.col] 58)) (w.heap.size) 54 #[.slice (some ⟨b, o7, none⟩) s7.l.length c7, .int .i64 s7.cd, .int .i64 0, .int .i64 s7.ln, .int .i64 s7.cl] := ((((blkall5 Bs).kept (below_alloc _)).kept (below_alloc _)).is (by first | rfl | simp))
    have Ek : Blk (((((((w7.setCell ⟨w.heap.size, 0, none⟩ (.slice (some ⟨b, o7, none⟩) s7.l.length c7)).setCell ⟨w.heap.size, 1, none⟩ (.int .i64 s7.cd)).setCell ⟨w.heap.size, 2, none⟩ (.int .i64 0)).setCell ⟨w.heap.size, 3, none⟩ (.int .i64 s7.ln)).setCell ⟨w.heap.size, 4, none⟩ (.int .i64 s7.cl)).alloc (.cells #[.int .i64 m.kind, .string (strOfNums m.s), .int .u64 m.n, .slice sa m.b.length sc, .int .i64 m.line, .int .i64 m.col] 58)).alloc (.cells #[.int .i64 n.kind, .string (strOfNums n.s), .int .u64 n.n, .slice ta n.b.length tc, .int .i64 n.line, .int .i64 n.col] 58)) (w3.heap.size) 58 #[.int .i64 kk.kind, .string (strOfNums kk.s), .int .u64 kk.n, .slice qa kk.b.length qc, .int .i64 kk.line, .int .i64 kk.col] := ((((blkoth5 Bk (show w3.heap.size ≠ w.heap.size by omega)).kept (below_alloc _)).kept (below_alloc _)).is (by first | rfl | simp))
    have Er6 : Blk (((((((w7.setCell ⟨w.heap.size, 0, none⟩ (.slice (some ⟨b, o7, none⟩) s7.l.length c7)).setCell ⟨w.heap.size, 1, none⟩ (.int .i64 s7.cd)).setCell ⟨w.heap.size, 2, none⟩ (.int .i64 0)).setCell ⟨w.heap.size, 3, none⟩ (.int .i64 s7.ln)).setCell ⟨w.heap.size, 4, none⟩ (.int .i64 s7.cl)).alloc (.cells #[.int .i64 m.kind, .string (strOfNums m.s), .int .u64 m.n, .slice sa m.b.length sc, .int .i64 m.line, .int .i64 m.col] 58)).alloc (.cells #[.int .i64 n.kind, .string (strOfNums n.s), .int .u64 n.n, .slice ta n.b.length tc, .int .i64 n.line, .int .i64 n.col] 58)) (w.heap.size + 1) 78 #[.string ⟨#[]⟩, .string ⟨#[]⟩, .string ⟨#[]⟩, .int .u64 0, .int .i64 0, .int .i64 0, .int .i64 0, .int .i64 0, .int .i64 0, .int .i64 0, .int .i64 0, .int .i64 0, .int .i64 0, .int .i64 0, .int .i64 0] := ((((blkoth5 Br6 (show w.heap.size + 1 ≠ w.heap.size by omega)).kept (below_alloc _)).kept (below_alloc _)).is (by first | rfl | simp))
    have Er7 : Blk (((((((w7.setCell ⟨w.heap.size, 0, none⟩ (.slice (some ⟨b, o7, none⟩) s7.l.length c7)).setCell ⟨w.heap.size, 1, none⟩ (.int .i64 s7.cd)).setCell ⟨w.heap.size, 2, none⟩ (.int .i64 0)).setCell ⟨w.heap.size, 3, none⟩ (.int .i64 s7.ln)).setCell ⟨w.heap.size, 4, none⟩ (.int .i64 s7.cl)).alloc (.cells #[.int .i64 m.kind, .string (strOfNums m.s), .int .u64 m.n, .slice sa m.b.length sc, .int .i64 m.line, .int .i64 m.col] 58)).alloc (.cells #[.int .i64 n.kind, .string (strOfNums n.s), .int .u64 n.n, .slice ta n.b.length tc, .int .i64 n.line, .int .i64 n.col] 58)) (w.heap.size + 1 + 1) 54 #[.slice none 0 0, .int .i64 0, .int .i64 0, .int .i64 0, .int .i64 0] := ((((blkoth5 Br7 (show w.heap.size + 1 + 1 ≠ w.heap.size by omega)).kept (below_alloc _)).kept (below_alloc _)).is (by first | rfl | simp))
    have Ep : Blk (((((((w7.setCell ⟨w.heap.size, 0, none⟩ (.slice (some ⟨b, o7, none⟩) s7.l.length c7)).setCell ⟨w.heap.size, 1, none⟩ (.int .i64 s7.cd)).setCell ⟨w.heap.size, 2, none⟩ (.int .i64 0)).setCell ⟨w.heap.size, 3, none⟩ (.int .i64 s7.ln)).setCell ⟨w.heap.size, 4, none⟩ (.int .i64 s7.cl)).alloc (.cells #[.int .i64 m.kind, .string (strOfNums m.s), .int .u64 m.n, .slice sa m.b.length sc, .int .i64 m.line, .int .i64 m.col] 58)).alloc (.cells #[.int .i64 n.kind, .string (strOfNums n.s), .int .u64 n.n, .slice ta n.b.length tc, .int .i64 n.line, .int .i64 n.col] 58)) (w5.heap.size) 64 #[.int .i64 pl.1, .int .i64 pl.2] := ((((blkoth5 Bp (show w5.heap.size ≠ w.heap.size by omega)).kept (below_alloc _)).kept (below_alloc _)).is (by first | rfl | simp))
    have Em : Blk (((((((w7.setCell ⟨w.heap.size, 0, none⟩ (.slice (some ⟨b, o7, none⟩) s7.l.length c7)).setCell ⟨w.heap.size, 1, none⟩ (.int .i64 s7.cd)).setCell ⟨w.heap.size, 2, none⟩ (.int .i64 0)).setCell ⟨w.heap.size, 3, none⟩ (.int .i64 s7.ln)).setCell ⟨w.heap.size, 4, none⟩ (.int .i64 s7.cl)).alloc (.cells #[.int .i64 m.kind, .string (strOfNums m.s), .int .u64 m.n, .slice sa m.b.length sc, .int .i64 m.line, .int .i64 m.col] 58)).alloc (.cells #[.int .i64 n.kind, .string (strOfNums n.s), .int .u64 n.n, .slice ta n.b.length tc, .int .i64 n.line, .int .i64 n.col] 58)) (w7.heap.size) 58 #[.int .i64 m.kind, .string (strOfNums m.s), .int .u64 m.n, .slice sa m.b.length sc, .int .i64 m.line, .int .i64 m.col] := (((Blk.newAt (by simp)).kept (below_alloc _)).is (by first | rfl | simp))
    have En : Blk (((((((w7.setCell ⟨w.heap.size, 0, none⟩ (.slice (some ⟨b, o7, none⟩) s7.l.length c7)).setCell ⟨w.heap.size, 1, none⟩ (.int .i64 s7.cd)).setCell ⟨w.heap.size, 2, none⟩ (.int .i64 0)).setCell ⟨w.heap.size, 3, none⟩ (.int .i64 s7.ln)).setCell ⟨w.heap.size, 4, none⟩ (.int .i64 s7.cl)).alloc (.cells #[.int .i64 m.kind, .string (strOfNums m.s), .int .u64 m.n, .slice sa m.b.length sc, .int .i64 m.line, .int .i64 m.col] 58)).alloc (.cells #[.int .i64 n.kind, .string (strOfNums n.s), .int .u64 n.n, .slice ta n.b.length tc, .int .i64 n.line, .int .i64 n.col] 58)) (w7.heap.size + 1) 58 #[.int .i64 n.kind, .string (strOfNums n.s), .int .u64 n.n, .slice ta n.b.length tc, .int .i64 n.line, .int .i64 n.col] := ((Blk.newAt (by simp)).is (by first | rfl | simp))
    have hbm : Hid (Below w.heap.size w (((((((w7.setCell ⟨w.heap.size, 0, none⟩ (.slice (some ⟨b, o7, none⟩) s7.l.length c7)).setCell ⟨w.heap.size, 1, none⟩ (.int .i64 s7.cd)).setCell ⟨w.heap.size, 2, none⟩ (.int .i64 0)).setCell ⟨w.heap.size, 3, none⟩ (.int .i64 s7.ln)).setCell ⟨w.heap.size, 4, none⟩ (.int .i64 s7.cl)).alloc (.cells #[.int .i64 m.kind, .string (strOfNums m.s), .int .u64 m.n, .slice sa m.b.length sc, .int .i64 m.line, .int .i64 m.col] 58)).alloc (.cells #[.int .i64 n.kind, .string (strOfNums n.s), .int .u64 n.n, .slice ta n.b.length tc, .int .i64 n.line, .int .i64 n.col] 58))) := hid (by have := hb7.out; exact blBy)
    have zwm : w7.heap.size + 1 < (((((((w7.setCell ⟨w.heap.size, 0, none⟩ (.slice (some ⟨b, o7, none⟩) s7.l.length c7)).setCell ⟨w.heap.size, 1, none⟩ (.int .i64 s7.cd)).setCell ⟨w.heap.size, 2, none⟩ (.int .i64 0)).setCell ⟨w.heap.size, 3, none⟩ (.int .i64 s7.ln)).setCell ⟨w.heap.size, 4, none⟩ (.int .i64 s7.cl)).alloc (.cells #[.int .i64 m.kind, .string (strOfNums m.s), .int .u64 m.n, .slice sa m.b.length sc, .int .i64 m.line, .int .i64 m.col] 58)).alloc (.cells #[.int .i64 n.kind, .string (strOfNums n.s), .int .u64 n.n, .slice ta n.b.length tc, .int .i64 n.line, .int .i64 n.col] 58)).heap.size := by simp
    clear Bs xs ys zs Bk xk yk zk Br6 xr6 yr6 zr6 Br7 xr7 yr7 zr7 Bp xp yp zp
    generalize (((((((w7.setCell ⟨w.heap.size, 0, none⟩ (.slice (some ⟨b, o7, none⟩) s7.l.length c7)).setCell ⟨w.heap.size, 1, none⟩ (.int .i64 s7.cd)).setCell ⟨w.heap.size, 2, none⟩ (.int .i64 0)).setCell ⟨w.heap.size, 3, none⟩ (.int .i64 s7.ln)).setCell ⟨w.heap.size, 4, none⟩ (.int .i64 s7.cl)).alloc (.cells #[.int .i64 m.kind, .string (strOfNums m.s), .int .u64 m.n, .slice sa m.b.length sc, .int .i64 m.line, .int .i64 m.col] 58)).alloc (.cells #[.int .i64 n.kind, .string (strOfNums n.s), .int .u64 n.n, .slice ta n.b.length tc, .int .i64 n.line, .int .i64 n.col] 58)) = wm at *
    have Bs := Es
    clear Es
    have Bk := Ek
    clear Ek
    have Br6 := Er6
    clear Er6
    have Br7 := Er7
    clear Er7
    have Bp := Ep
    clear Ep
    have Bm := Em
    clear Em
    have Bn := En
    clear En
    have xm := Bm.cellF
    have xn := Bn.cellF
    have xk := Bk.cellF
    have xp := Bp.cellF
    go_region_held3 (fun W => (W.cell? ⟨w7.heap.size, 0, none⟩ = some (.int .i64 m.kind) ∧ W.cell? ⟨w7.heap.size, 1, none⟩ = some (.string (strOfNums m.s)) ∧ W.cell? ⟨w7.heap.size, 2, none⟩ = some (.int .u64 m.n) ∧ W.cell? ⟨w7.heap.size, 3, none⟩ = some (.slice sa m.b.length sc) ∧ W.cell? ⟨w7.heap.size, 4, none⟩ = some (.int .i64 m.line) ∧ W.cell? ⟨w7.heap.size, 5, none⟩ = some (.int .i64 m.col)) ∧ (W.cell? ⟨w7.heap.size + 1, 0, none⟩ = some (.int .i64 n.kind) ∧ W.cell? ⟨w7.heap.size + 1, 1, none⟩ = some (.string (strOfNums n.s)) ∧ W.cell? ⟨w7.heap.size + 1, 2, none⟩ = some (.int .u64 n.n) ∧ W.cell? ⟨w7.heap.size + 1, 3, none⟩ = some (.slice ta n.b.length tc) ∧ W.cell? ⟨w7.heap.size + 1, 4, none⟩ = some (.int .i64 n.line) ∧ W.cell? ⟨w7.heap.size + 1, 5, none⟩ = some (.int .i64 n.col)) ∧ (W.cell? ⟨w3.heap.size, 0, none⟩ = some (.int .i64 kk.kind) ∧ W.cell? ⟨w3.heap.size, 1, none⟩ = some (.string (strOfNums kk.s)) ∧ W.cell? ⟨w3.heap.size, 2, none⟩ = some (.int .u64 kk.n) ∧ W.cell? ⟨w3.heap.size, 3, none⟩ = some (.slice qa kk.b.length qc) ∧ W.cell? ⟨w3.heap.size, 4, none⟩ = some (.int .i64 kk.line) ∧ W.cell? ⟨w3.heap.size, 5, none⟩ = some (.int .i64 kk.col)) ∧ (W.cell? ⟨w5.heap.size, 0, none⟩ = some (.int .i64 pl.1) ∧ W.cell? ⟨w5.heap.size, 1, none⟩ = some (.int .i64 pl.2))) ((refine ⟨blkc6 (t := 58) ?_, blkc6 (t := 58) ?_, blkc6 (t := 58) ?_, blkc2 (t := 64) ?_⟩ <;> (with_reducible repeat (first | exact Vmu3.out | exact Vnu3.out | exact Vku3.out | exact Vpu3.out | exact Vmu2.out | exact Vnu2.out | exact Vku2.out | exact Vpu2.out | exact Vmu1.out | exact Vnu1.out | exact Vku1.out | exact Vpu1.out | exact Bm | exact Bn | exact Bk | exact Bp | refine Blk.oth ?_ | refine Blk.kept ?_ (below_drew1 _) | refine Blk.kept ?_ (below_alloc _))); done)) (first | (go_at_call_of 20 m; refine (atR _ m sa sc).mono ?_; rintro e u1 ⟨rfl, hbu⟩; have Vsu1 : Hid (Blk u1 (w.heap.size) 54 #[.slice (some ⟨b, o7, none⟩) s7.l.length c7, .int .i64 s7.cd, .int .i64 0, .int .i64 s7.ln, .int .i64 s7.cl]) := hid (Blk.kept (by (with_reducible repeat (first | exact Bs | refine Blk.oth ?_ | refine Blk.kept ?_ (below_drew1 _) | refine Blk.kept ?_ (below_alloc _))); done) hbu); have Vku1 : Hid (Blk u1 (w3.heap.size) 58 #[.int .i64 kk.kind, .string (strOfNums kk.s), .int .u64 kk.n, .slice qa kk.b.length qc, .int .i64 kk.line, .int .i64 kk.col]) := hid (Blk.kept (by (with_reducible repeat (first | exact Bk | refine Blk.oth ?_ | refine Blk.kept ?_ (below_drew1 _) | refine Blk.kept ?_ (below_alloc _))); done) hbu); have Vr6u1 : Hid (Blk u1 (w.heap.size + 1) 78 #[.string ⟨#[]⟩, .string ⟨#[]⟩, .string ⟨#[]⟩, .int .u64 0, .int .i64 0, .int .i64 0, .int .i64 0, .int .i64 0, .int .i64 0, .int .i64 0, .int .i64 0, .int .i64 0, .int .i64 0, .int .i64 0, .int .i64 0]) := hid (Blk.kept (by (with_reducible repeat (first | exact Br6 | refine Blk.oth ?_ | refine Blk.kept ?_ (below_drew1 _) | refine Blk.kept ?_ (below_alloc _))); done) hbu); have Vr7u1 : Hid (Blk u1 (w.heap.size + 1 + 1) 54 #[.slice none 0 0, .int .i64 0, .int .i64 0, .int .i64 0, .int .i64 0]) := hid (Blk.kept (by (with_reducible repeat (first | exact Br7 | refine Blk.oth ?_ | refine Blk.kept ?_ (below_drew1 _) | refine Blk.kept ?_ (below_alloc _))); done) hbu); have Vpu1 : Hid (Blk u1 (w5.heap.size) 64 #[.int .i64 pl.1, .int .i64 pl.2]) := hid (Blk.kept (by (with_reducible repeat (first | exact Bp | refine Blk.oth ?_ | refine Blk.kept ?_ (below_drew1 _) | refine Blk.kept ?_ (below_alloc _))); done) hbu); have Vmu1 : Hid (Blk u1 (w7.heap.size) 58 #[.int .i64 m.kind, .string (strOfNums m.s), .int .u64 m.n, .slice sa m.b.length sc, .int .i64 m.line, .int .i64 m.col]) := hid (Blk.kept (by (with_reducible repeat (first | exact Bm | refine Blk.oth ?_ | refine Blk.kept ?_ (below_drew1 _) | refine Blk.kept ?_ (below_alloc _))); done) hbu); have Vnu1 : Hid (Blk u1 (w7.heap.size + 1) 58 #[.int .i64 n.kind, .string (strOfNums n.s), .int .u64 n.n, .slice ta n.b.length tc, .int .i64 n.line, .int .i64 n.col]) := hid (Blk.kept (by (with_reducible repeat (first | exact Bn | refine Blk.oth ?_ | refine Blk.kept ?_ (below_drew1 _) | refine Blk.kept ?_ (below_alloc _))); done) hbu); (try have Y1 : Hid (Blk u1 wm.heap.size 78 #[.string ⟨#[]⟩, .string ⟨#[]⟩, .string ⟨#[]⟩, .int .u64 0, .int .i64 0, .int .i64 0, .int .i64 0, .int .i64 0, .int .i64 0, .int .i64 0, .int .i64 0, .int .i64 0, .int .i64 0, .int .i64 0, .int .i64 0]) := hid (Blk.kept (by first | with_reducible exact (Blk.newAt (w := wm) rfl).kept (below_drew1 _) | with_reducible exact Blk.newAt (w := wm.drew) rfl) hbu)); have hsu1 := hbu.size; (try simp at hsu1); have hbb1 : Hid (Below w.heap.size w u1) := hid (bl_then (by have := hbm.out; exact blBy) hbu); clear hbu) | (go_at_call_of 20 n; refine (atR _ n ta tc).mono ?_; rintro e u2 ⟨rfl, hbu⟩; have Vsu2 : Hid (Blk u2 (w.heap.size) 54 #[.slice (some ⟨b, o7, none⟩) s7.l.length c7, .int .i64 s7.cd, .int .i64 0, .int .i64 s7.ln, .int .i64 s7.cl]) := hid (Blk.kept (by (with_reducible repeat (first | exact Vsu1.out | refine Blk.oth ?_ | refine Blk.kept ?_ (below_drew1 _) | refine Blk.kept ?_ (below_alloc _))); done) hbu); have Vku2 : Hid (Blk u2 (w3.heap.size) 58 #[.int .i64 kk.kind, .string (strOfNums kk.s), .int .u64 kk.n, .slice qa kk.b.length qc, .int .i64 kk.line, .int .i64 kk.col]) := hid (Blk.kept (by (with_reducible repeat (first | exact Vku1.out | refine Blk.oth ?_ | refine Blk.kept ?_ (below_drew1 _) | refine Blk.kept ?_ (below_alloc _))); done) hbu); have Vr6u2 : Hid (Blk u2 (w.heap.size + 1) 78 #[.string ⟨#[]⟩, .string ⟨#[]⟩, .string ⟨#[]⟩, .int .u64 0, .int .i64 0, .int .i64 0, .int .i64 0, .int .i64 0, .int .i64 0, .int .i64 0, .int .i64 0, .int .i64 0, .int .i64 0, .int .i64 0, .int .i64 0]) := hid (Blk.kept (by (with_reducible repeat (first | exact Vr6u1.out | refine Blk.oth ?_ | refine Blk.kept ?_ (below_drew1 _) | refine Blk.kept ?_ (below_alloc _))); done) hbu); have Vr7u2 : Hid (Blk u2 (w.heap.size + 1 + 1) 54 #[.slice none 0 0, .int .i64 0, .int .i64 0, .int .i64 0, .int .i64 0]) := hid (Blk.kept (by (with_reducible repeat (first | exact Vr7u1.out | refine Blk.oth ?_ | refine Blk.kept ?_ (below_drew1 _) | refine Blk.kept ?_ (below_alloc _))); done) hbu); have Vpu2 : Hid (Blk u2 (w5.heap.size) 64 #[.int .i64 pl.1, .int .i64 pl.2]) := hid (Blk.kept (by (with_reducible repeat (first | exact Vpu1.out | refine Blk.oth ?_ | refine Blk.kept ?_ (below_drew1 _) | refine Blk.kept ?_ (below_alloc _))); done) hbu); have Vmu2 : Hid (Blk u2 (w7.heap.size) 58 #[.int .i64 m.kind, .string (strOfNums m.s), .int .u64 m.n, .slice sa m.b.length sc, .int .i64 m.line, .int .i64 m.col]) := hid (Blk.kept (by (with_reducible repeat (first | exact Vmu1.out | refine Blk.oth ?_ | refine Blk.kept ?_ (below_drew1 _) | refine Blk.kept ?_ (below_alloc _))); done) hbu); have Vnu2 : Hid (Blk u2 (w7.heap.size + 1) 58 #[.int .i64 n.kind, .string (strOfNums n.s), .int .u64 n.n, .slice ta n.b.length tc, .int .i64 n.line, .int .i64 n.col]) := hid (Blk.kept (by (with_reducible repeat (first | exact Vnu1.out | refine Blk.oth ?_ | refine Blk.kept ?_ (below_drew1 _) | refine Blk.kept ?_ (below_alloc _))); done) hbu); (try have Z1 : Hid (Blk u2 wm.heap.size 78 #[.string ⟨#[]⟩, .string ⟨#[]⟩, .string ⟨#[]⟩, .int .u64 0, .int .i64 0, .int .i64 0, .int .i64 0, .int .i64 0, .int .i64 0, .int .i64 0, .int .i64 0, .int .i64 0, .int .i64 0, .int .i64 0, .int .i64 0]) := hid (Blk.kept (by with_reducible exact Y1.out) hbu)); (try have Z2 : Hid (Blk u2 u1.heap.size 78 #[.string ⟨#[]⟩, .string ⟨#[]⟩, .string ⟨#[]⟩, .int .u64 0, .int .i64 0, .int .i64 0, .int .i64 0, .int .i64 0, .int .i64 0, .int .i64 0, .int .i64 0, .int .i64 0, .int .i64 0, .int .i64 0, .int .i64 0]) := hid (Blk.kept (by with_reducible exact Blk.newAt (w := u1) rfl) hbu)); have hsu2 := hbu.size; (try simp at hsu2); have hbb2 : Hid (Below w.heap.size w u2) := hid (bl_then (by have := hbb1.out; exact blBy) hbu); clear hbu) | (go_at_call_of 20 kk; refine (atR _ kk qa qc).mono ?_; rintro e u3 ⟨rfl, hbu⟩; have Vsu3 : Hid (Blk u3 (w.heap.size) 54 #[.slice (some ⟨b, o7, none⟩) s7.l.length c7, .int .i64 s7.cd, .int .i64 0, .int .i64 s7.ln, .int .i64 s7.cl]) := hid (Blk.kept (by (with_reducible repeat (first | exact Vsu2.out | refine Blk.oth ?_ | refine Blk.kept ?_ (below_drew1 _) | refine Blk.kept ?_ (below_alloc _))); done) hbu); have Vku3 : Hid (Blk u3 (w3.heap.size) 58 #[.int .i64 kk.kind, .string (strOfNums kk.s), .int .u64 kk.n, .slice qa kk.b.length qc, .int .i64 kk.line, .int .i64 kk.col]) := hid (Blk.kept (by (with_reducible repeat (first | exact Vku2.out | refine Blk.oth ?_ | refine Blk.kept ?_ (below_drew1 _) | refine Blk.kept ?_ (below_alloc _))); done) hbu); have Vr6u3 : Hid (Blk u3 (w.heap.size + 1) 78 #[.string ⟨#[]⟩, .string ⟨#[]⟩, .string ⟨#[]⟩, .int .u64 0, .int .i64 0, .int .i64 0, .int .i64 0, .int .i64 0, .int .i64 0, .int .i64 0, .int .i64 0, .int .i64 0, .int .i64 0, .int .i64 0, .int .i64 0]) := hid (Blk.kept (by (with_reducible repeat (first | exact Vr6u2.out | refine Blk.oth ?_ | refine Blk.kept ?_ (below_drew1 _) | refine Blk.kept ?_ (below_alloc _))); done) hbu); have Vr7u3 : Hid (Blk u3 (w.heap.size + 1 + 1) 54 #[.slice none 0 0, .int .i64 0, .int .i64 0, .int .i64 0, .int .i64 0]) := hid (Blk.kept (by (with_reducible repeat (first | exact Vr7u2.out | refine Blk.oth ?_ | refine Blk.kept ?_ (below_drew1 _) | refine Blk.kept ?_ (below_alloc _))); done) hbu); have Vpu3 : Hid (Blk u3 (w5.heap.size) 64 #[.int .i64 pl.1, .int .i64 pl.2]) := hid (Blk.kept (by (with_reducible repeat (first | exact Vpu2.out | refine Blk.oth ?_ | refine Blk.kept ?_ (below_drew1 _) | refine Blk.kept ?_ (below_alloc _))); done) hbu); have Vmu3 : Hid (Blk u3 (w7.heap.size) 58 #[.int .i64 m.kind, .string (strOfNums m.s), .int .u64 m.n, .slice sa m.b.length sc, .int .i64 m.line, .int .i64 m.col]) := hid (Blk.kept (by (with_reducible repeat (first | exact Vmu2.out | refine Blk.oth ?_ | refine Blk.kept ?_ (below_drew1 _) | refine Blk.kept ?_ (below_alloc _))); done) hbu); have Vnu3 : Hid (Blk u3 (w7.heap.size + 1) 58 #[.int .i64 n.kind, .string (strOfNums n.s), .int .u64 n.n, .slice ta n.b.length tc, .int .i64 n.line, .int .i64 n.col]) := hid (Blk.kept (by (with_reducible repeat (first | exact Vnu2.out | refine Blk.oth ?_ | refine Blk.kept ?_ (below_drew1 _) | refine Blk.kept ?_ (below_alloc _))); done) hbu); (try have X1 : Hid (Blk u3 wm.heap.size 78 #[.string ⟨#[]⟩, .string ⟨#[]⟩, .string ⟨#[]⟩, .int .u64 0, .int .i64 0, .int .i64 0, .int .i64 0, .int .i64 0, .int .i64 0, .int .i64 0, .int .i64 0, .int .i64 0, .int .i64 0, .int .i64 0, .int .i64 0]) := hid (Blk.kept (by with_reducible exact Z1.out) hbu)); (try have X2 : Hid (Blk u3 u1.heap.size 78 #[.string ⟨#[]⟩, .string ⟨#[]⟩, .string ⟨#[]⟩, .int .u64 0, .int .i64 0, .int .i64 0, .int .i64 0, .int .i64 0, .int .i64 0, .int .i64 0, .int .i64 0, .int .i64 0, .int .i64 0, .int .i64 0, .int .i64 0]) := hid (Blk.kept (by with_reducible exact Z2.out) hbu)); (try have X3 : Hid (Blk u3 u2.heap.size 78 #[.string ⟨#[]⟩, .string ⟨#[]⟩, .string ⟨#[]⟩, .int .u64 0, .int .i64 0, .int .i64 0, .int .i64 0, .int .i64 0, .int .i64 0, .int .i64 0, .int .i64 0, .int .i64 0, .int .i64 0, .int .i64 0, .int .i64 0]) := hid (Blk.kept (by with_reducible exact Blk.newAt (w := u2) rfl) hbu)); (try have xx1 := X1.out.cellF); (try have xy1 := X1.out.frz); (try have xx2 := X2.out.cellF); (try have xy2 := X2.out.frz); (try have xx3 := X3.out.cellF); (try have xy3 := X3.out.frz); have hsu3 := hbu.size; (try simp at hsu3); have hbb3 : Hid (Below w.heap.size w u3) := hid (bl_then (by have := hbb2.out; exact blBy) hbu); clear hbu))
    all_goals (go_wp2_with fail; go_meet; first | (have hq := X1; exact ⟨wm.heap.size, rfl, hid (by have := hbb3.out; exact blBy), hid ⟨by omega, by first | (simp; done) | (simp; omega) | omega⟩, hid (blkall15 X1.out), hid (by (with_reducible repeat (first | exact Vsu3.out | refine blkoth15 ?_ (by omega) | refine Blk.oth ?_ | refine Blk.kept ?_ (below_drew1 _) | refine Blk.kept ?_ (below_alloc _))); done), hid (by (with_reducible repeat (first | exact Vr6u3.out | refine blkoth15 ?_ (by omega) | refine Blk.oth ?_ | refine Blk.kept ?_ (below_drew1 _) | refine Blk.kept ?_ (below_alloc _))); done), hid (by (with_reducible repeat (first | exact Vr7u3.out | refine blkoth15 ?_ (by omega) | refine Blk.oth ?_ | refine Blk.kept ?_ (below_drew1 _) | refine Blk.kept ?_ (below_alloc _))); done)⟩) | (have hq := X2; exact ⟨u1.heap.size, rfl, hid (by have := hbb3.out; exact blBy), hid ⟨by omega, by first | (simp; done) | (simp; omega) | omega⟩, hid (blkall15 X2.out), hid (by (with_reducible repeat (first | exact Vsu3.out | refine blkoth15 ?_ (by omega) | refine Blk.oth ?_ | refine Blk.kept ?_ (below_drew1 _) | refine Blk.kept ?_ (below_alloc _))); done), hid (by (with_reducible repeat (first | exact Vr6u3.out | refine blkoth15 ?_ (by omega) | refine Blk.oth ?_ | refine Blk.kept ?_ (below_drew1 _) | refine Blk.kept ?_ (below_alloc _))); done), hid (by (with_reducible repeat (first | exact Vr7u3.out | refine blkoth15 ?_ (by omega) | refine Blk.oth ?_ | refine Blk.kept ?_ (below_drew1 _) | refine Blk.kept ?_ (below_alloc _))); done)⟩) | (have hq := X3; exact ⟨u2.heap.size, rfl, hid (by have := hbb3.out; exact blBy), hid ⟨by omega, by first | (simp; done) | (simp; omega) | omega⟩, hid (blkall15 X3.out), hid (by (with_reducible repeat (first | exact Vsu3.out | refine blkoth15 ?_ (by omega) | refine Blk.oth ?_ | refine Blk.kept ?_ (below_drew1 _) | refine Blk.kept ?_ (below_alloc _))); done), hid (by (with_reducible repeat (first | exact Vr6u3.out | refine blkoth15 ?_ (by omega) | refine Blk.oth ?_ | refine Blk.kept ?_ (below_drew1 _) | refine Blk.kept ?_ (below_alloc _))); done), hid (by (with_reducible repeat (first | exact Vr7u3.out | refine blkoth15 ?_ (by omega) | refine Blk.oth ?_ | refine Blk.kept ?_ (below_drew1 _) | refine Blk.kept ?_ (below_alloc _))); done)⟩) | (exact ⟨u3.heap.size, rfl, hid (by have := hbb3.out; exact blBy), hid ⟨by omega, by first | (simp; done) | (simp; omega) | omega⟩, hid (Blk.newAt rfl), hid (by (with_reducible repeat (first | exact Vsu3.out | refine blkoth15 ?_ (by omega) | refine Blk.oth ?_ | refine Blk.kept ?_ (below_drew1 _) | refine Blk.kept ?_ (below_alloc _))); done), hid (by (with_reducible repeat (first | exact Vr6u3.out | refine blkoth15 ?_ (by omega) | refine Blk.oth ?_ | refine Blk.kept ?_ (below_drew1 _) | refine Blk.kept ?_ (below_alloc _))); done), hid (by (with_reducible repeat (first | exact Vr7u3.out | refine blkoth15 ?_ (by omega) | refine Blk.oth ?_ | refine Blk.kept ?_ (below_drew1 _) | refine Blk.kept ?_ (below_alloc _))); done)⟩))
  case rest =>
    obtain ⟨Q, rfl, hb0, hQ, BF, BS, B6, B7⟩ := hcut
    have hQ1 := hQ.out.1
    have hQ2 := hQ.out.2
    clear Bs xs ys zs Bk xk yk zk Br6 xr6 yr6 zr6 Br7 xr7 yr7 zr7 Bp xp yp zp
    have Bs := BS.out
    have Br6 := B6.out
    have Br7 := B7.out
    have Bf := BF.out
    have xs := Bs.cellF
    have ys := Bs.frz
    have zs : w.heap.size < wc.heap.size := by omega
    have xr6 := Br6.cellF
    have yr6 := Br6.frz
    have zr6 : w.heap.size + 1 < wc.heap.size := by omega
    have xr7 := Br7.cellF
    have yr7 := Br7.frz
    have zr7 : w.heap.size + 1 + 1 < wc.heap.size := by omega
    have xf := Bf.cellF
    have yf := Bf.frz
    have zf : Q < wc.heap.size := by omega
    clear BF BS B6 B7 hQ
    go_wp2_with fail
    go_region_held3 (fun W => (W.cell? ⟨Q, 0, none⟩ = some (.string (strOfNums m.s)) ∧ W.cell? ⟨Q, 1, none⟩ = some (.string (strOfNums t)) ∧ W.cell? ⟨Q, 2, none⟩ = some (.string (strOfNums kk.s)) ∧ W.cell? ⟨Q, 3, none⟩ = some (.int .u64 n.n) ∧ W.cell? ⟨Q, 4, none⟩ = some (.int .i64 5) ∧ W.cell? ⟨Q, 5, none⟩ = some (.int .i64 0) ∧ W.cell? ⟨Q, 6, none⟩ = some (.int .i64 0) ∧ W.cell? ⟨Q, 7, none⟩ = some (.int .i64 m.line) ∧ W.cell? ⟨Q, 8, none⟩ = some (.int .i64 m.col) ∧ W.cell? ⟨Q, 9, none⟩ = some (.int .i64 n.line) ∧ W.cell? ⟨Q, 10, none⟩ = some (.int .i64 n.col) ∧ W.cell? ⟨Q, 11, none⟩ = some (.int .i64 pl.1) ∧ W.cell? ⟨Q, 12, none⟩ = some (.int .i64 pl.2) ∧ W.cell? ⟨Q, 13, none⟩ = some (.int .i64 kk.line) ∧ W.cell? ⟨Q, 14, none⟩ = some (.int .i64 kk.col)) ∧ (W.cell? ⟨w.heap.size, 0, none⟩ = some (.slice (some ⟨b, o7, none⟩) s7.l.length c7) ∧ W.cell? ⟨w.heap.size, 1, none⟩ = some (.int .i64 s7.cd) ∧ W.cell? ⟨w.heap.size, 2, none⟩ = some (.int .i64 0) ∧ W.cell? ⟨w.heap.size, 3, none⟩ = some (.int .i64 s7.ln) ∧ W.cell? ⟨w.heap.size, 4, none⟩ = some (.int .i64 s7.cl))) ((refine ⟨blkc15 (t := 78) ?_, blkc5 (t := 54) ?_⟩ <;> (with_reducible repeat (first | exact Vfu9.out | exact Vsu9.out | exact Bf | exact Bs | refine Blk.oth ?_ | refine Blk.kept ?_ (below_drew1 _) | refine Blk.kept ?_ (below_alloc _))); done)) (first | (go_at_call 18; refine (eatR w0 b o7 c7 s7 _ ⟨#[59]⟩ [59] rfl (by decide) hst7.out (bl_then HB.out (by have := hb0.out; exact blBy))).mono ?_; rintro e u9 ⟨⟨s9, o9, c9, he9, rfl, hst9⟩, hbu⟩; have Vfu9 : Hid (Blk u9 (Q) 78 #[.string (strOfNums m.s), .string (strOfNums t), .string (strOfNums kk.s), .int .u64 n.n, .int .i64 5, .int .i64 0, .int .i64 0, .int .i64 m.line, .int .i64 m.col, .int .i64 n.line, .int .i64 n.col, .int .i64 pl.1, .int .i64 pl.2, .int .i64 kk.line, .int .i64 kk.col]) := hid (Blk.kept (by (with_reducible repeat (first | exact Bf | refine Blk.oth ?_ | refine Blk.kept ?_ (below_drew1 _) | refine Blk.kept ?_ (below_alloc _))); done) hbu); have Vsu9 : Hid (Blk u9 (w.heap.size) 54 #[.slice (some ⟨b, o7, none⟩) s7.l.length c7, .int .i64 s7.cd, .int .i64 0, .int .i64 s7.ln, .int .i64 s7.cl]) := hid (Blk.kept (by (with_reducible repeat (first | exact Bs | refine Blk.oth ?_ | refine Blk.kept ?_ (below_drew1 _) | refine Blk.kept ?_ (below_alloc _))); done) hbu); have Vr7u9 : Hid (Blk u9 (w.heap.size + 1 + 1) 54 #[.slice none 0 0, .int .i64 0, .int .i64 0, .int .i64 0, .int .i64 0]) := hid (Blk.kept (by (with_reducible repeat (first | exact Br7 | refine Blk.oth ?_ | refine Blk.kept ?_ (below_drew1 _) | refine Blk.kept ?_ (below_alloc _))); done) hbu); have vx7 := Vr7u9.out.cellF; have vy7 := Vr7u9.out.frz; have Vr6u9 : Hid (Blk u9 (w.heap.size + 1) 78 #[.string ⟨#[]⟩, .string ⟨#[]⟩, .string ⟨#[]⟩, .int .u64 0, .int .i64 0, .int .i64 0, .int .i64 0, .int .i64 0, .int .i64 0, .int .i64 0, .int .i64 0, .int .i64 0, .int .i64 0, .int .i64 0, .int .i64 0]) := hid (Blk.kept (by (with_reducible repeat (first | exact Br6 | refine Blk.oth ?_ | refine Blk.kept ?_ (below_drew1 _) | refine Blk.kept ?_ (below_alloc _))); done) hbu); have vx6 := Vr6u9.out.cellF; have vy6 := Vr6u9.out.frz; have hsu := hbu.size; (try simp at hsu); have hbb : Hid (Below w.heap.size w u9) := hid (bl_then (by have := hb0.out; exact blBy) hbu); replace hst9 := hid hst9; clear hbu))
    all_goals go_wp2
    all_goals exact bodyPost_ret (v := .tuple #[.agg #[.string (strOfNums m.s), .string (strOfNums t), .string (strOfNums kk.s), .int .u64 n.n, .int .i64 5, .int .i64 0, .int .i64 0, .int .i64 m.line, .int .i64 m.col, .int .i64 n.line, .int .i64 n.col, .int .i64 pl.1, .int .i64 pl.2, .int .i64 kk.line, .int .i64 kk.col], .agg #[.slice (some ⟨b, o9, none⟩) s9.l.length c9, .int .i64 s9.cd, .int .i64 0, .int .i64 s9.ln, .int .i64 s9.cl]]) (by simp [results, Tryz.results82, go_sem, vx7, vx6, zr6, zr7]) rfl ⟨⟨(fld kk.s t pl m n 5 (atM kk)), s9, o9, c9, hid (by rw [HPR.out]), hid (by rw [HPR.out]; exact he9.out), rfl, hst9⟩, by have := hbb.out; exact blBy⟩
end
end Go.Proofs.YtidimdbnnnpplaaGreatDoor
