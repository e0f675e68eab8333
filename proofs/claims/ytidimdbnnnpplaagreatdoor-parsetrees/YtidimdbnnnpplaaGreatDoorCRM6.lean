/-
  The document's form of a declaration.
  While the document's Parse builds a file.
-/
import Derived.Test.YtidimdbnnnpplaaGreatDoorCRM4
import Derived.Deep.RegionHeld3
import Derived.Test.YtidimdbnnnpplaaGreatDoorRE
import Derived.Deep.CutRange
import Derived.Test.YtidimdbnnnpplaaGreatDoorCP4
import Derived.Test.YtidimdbnnnpplaaGreatDoorCYR
namespace Go.Proofs.YtidimdbnnnpplaaGreatDoor
open Go.RowKit
set_option maxRecDepth 1000000
set_option linter.unusedVariables false
set_option linter.unusedSimpArgs false
set_option maxHeartbeats 8000000
theorem memLr_go {L : Nat} {d : MD} {s : PS} (h0 : s.cd = 0) (h : isM s [125] = false) : memL (dclM L) (d, s) = memL (dclM L) (memM (dclM L) (d, s)) := by
  unfold memL
  exact whM_go (p := fun x : MD × PS => x.2) (x := (d, s)) (fun x hx => mem_dec (fun s hs => mu_dcl_lt L hs) (endC_cd hx).1) (by unfold endC; simp [h0, h])
theorem memLr_stop {L : Nat} {d : MD} {s : PS} (h : isM s [125] = true) : memL (dclM L) (d, s) = (d, s) := by
  unfold memL
  exact whM_stop (by unfold endC; simp [h])
section
variable (w0 : World) (b off cap : Nat) (s : PS) (w : World)
theorem declR_deep (depth : Int) (hd : 8 < depth) (hi : isM s wEnum = false) (h : StR w0 b off cap s) (hb : Below w0.heap.size w0 w) : Calls Tryz.prog 22 #[.agg #[.slice (some ⟨b, off, none⟩) s.l.length cap, .int .i64 s.cd, .int .i64 0, .int .i64 s.ln, .int .i64 s.cl], .int .i64 depth] w (DclR w0 b 1 (zD, badM s 17) w) := by
  unfold DclR
  have HB := hid hb
  have HW := hid h
  clear h hb
  have hb0 : Hid (Below w.heap.size w w) := hid (Below.refl _ _)
  go_enter Tryz.func22, Tryz.ntmps22
  go_wp2_with fail
  refine (isR w0 b off cap s _ ⟨#[101, 110, 117, 109]⟩ wEnum rfl (by decide) HW.out (bl_then HB.out (by have := hb0.out; exact blBy))).mono ?_
  rintro e w1 ⟨rfl, hb1⟩
  have Bs : Blk w1 (w.heap.size) 54 #[.slice (some ⟨b, off, none⟩) s.l.length cap, .int .i64 s.cd, .int .i64 0, .int .i64 s.ln, .int .i64 s.cl] := Blk.kept ((((Blk.newAt (by simp)).kept (below_alloc _)).kept (below_alloc _)).is (by first | rfl | simp)) hb1
  have Br4 : Blk w1 (w.heap.size + 1) 74 #[.bool false, .string ⟨#[]⟩, .int .i64 0, .int .i64 0, .slice none 0 0, .slice none 0 0, .slice none 0 0, .slice none 0 0, .slice none 0 0] := Blk.kept (((Blk.newAt (by simp)).kept (below_alloc _)).is (by first | rfl | simp)) hb1
  have Br5 : Blk w1 (w.heap.size + 1 + 1) 54 #[.slice none 0 0, .int .i64 0, .int .i64 0, .int .i64 0, .int .i64 0] := Blk.kept ((Blk.newAt (by simp)).is (by first | rfl | simp)) hb1
  have hs1 := hb1.size
  try simp at hs1
  have xs := Bs.cellF
  have ys := Bs.frz
  have zs : w.heap.size < w1.heap.size := by omega
  have xr4 := Br4.cellF
  have yr4 := Br4.frz
  have zr4 : w.heap.size + 1 < w1.heap.size := by omega
  have xr5 := Br5.cellF
  have yr5 := Br5.frz
  have zr5 : w.heap.size + 1 + 1 < w1.heap.size := by omega
  replace hb1 : Hid (Below w.heap.size w w1) := hid (bl_then (by have := hb0.out; exact blBy) hb1)
  rw [hi]
  go_wp2_with fail
  refine (badR w0 b off cap s _ 17 HW.out (bl_then HB.out (by have := hb1.out; exact blBy)) (by decide) (by decide)).mono ?_
  rintro e w2 ⟨⟨s1, he1, rfl, hst1⟩, hb2⟩
  replace Bs : Blk w2 (w.heap.size) 54 #[.slice (some ⟨b, off, none⟩) s.l.length cap, .int .i64 s.cd, .int .i64 0, .int .i64 s.ln, .int .i64 s.cl] := Blk.kept (Bs.is (by first | rfl | simp)) hb2
  replace Br4 : Blk w2 (w.heap.size + 1) 74 #[.bool false, .string ⟨#[]⟩, .int .i64 0, .int .i64 0, .slice none 0 0, .slice none 0 0, .slice none 0 0, .slice none 0 0, .slice none 0 0] := Blk.kept (Br4.is (by first | rfl | simp)) hb2
  replace Br5 : Blk w2 (w.heap.size + 1 + 1) 54 #[.slice none 0 0, .int .i64 0, .int .i64 0, .int .i64 0, .int .i64 0] := Blk.kept (Br5.is (by first | rfl | simp)) hb2
  clear xs ys xr4 yr4 xr5 yr5
  have hs2 := hb2.size
  try simp at hs2
  have xs := Bs.cellF
  have ys := Bs.frz
  replace zs : w.heap.size < w2.heap.size := by omega
  have xr4 := Br4.cellF
  have yr4 := Br4.frz
  replace zr4 : w.heap.size + 1 < w2.heap.size := by omega
  have xr5 := Br5.cellF
  have yr5 := Br5.frz
  replace zr5 : w.heap.size + 1 + 1 < w2.heap.size := by omega
  replace hb2 : Hid (Below w.heap.size w w2) := hid (bl_then (by have := hb1.out; exact blBy) hb2)
  replace hst1 := hid hst1
  go_wp2
  exact bodyPost_ret (v := .tuple #[.agg #[.bool false, .string ⟨#[]⟩, .int .i64 0, .int .i64 0, .slice none 0 0, .slice none 0 0, .slice none 0 0, .slice none 0 0, .slice none 0 0], .agg #[.slice (some ⟨b, off, none⟩) s1.l.length cap, .int .i64 s1.cd, .int .i64 0, .int .i64 s1.ln, .int .i64 s1.cl]]) (by simp [results, Tryz.results22, go_sem, xr4, xr5, zr4, zr5]) rfl ⟨⟨⟨zD, .slice none 0 0, .slice none 0 0, .slice none 0 0, .slice none 0 0, .slice none 0 0⟩, s1, off, cap, hid rfl, he1, rfl, hid ⟨rowRS_nil _ _ _, rowRS_nil _ _ _, rowRS_nil _ _ _, rowRS_nil _ _ _, [], rfl, rowRS_nil _ _ _, by simp⟩, hst1⟩, by have := hb2.out; exact blBy⟩
theorem declR_msg (L : Nat) (depth : Int) (hdep : depth + L = 8) (hd0 : 0 ≤ depth) (hsub : ∀ (s : PS) (off cap : Nat) (W : World), StR w0 b off cap s → Below w0.heap.size w0 W → Calls Tryz.prog 22 #[.agg #[.slice (some ⟨b, off, none⟩) s.l.length cap, .int .i64 s.cd, .int .i64 0, .int .i64 s.ln, .int .i64 s.cl], .int .i64 (depth + 1)] W (DclR w0 b (L + 1) (dclM L s) W)) (hi : isM s wEnum = false) (h : StR w0 b off cap s) (hb : Below w0.heap.size w0 w) : Calls Tryz.prog 22 #[.agg #[.slice (some ⟨b, off, none⟩) s.l.length cap, .int .i64 s.cd, .int .i64 0, .int .i64 s.ln, .int .i64 s.cl], .int .i64 depth] w (DclR w0 b (L + 2) (msgM (dclM L) s) w) := by
  unfold DclR
  have HSU := hid hsub
  have hdl : ¬ (8 : Int) < depth := by omega
  have hdl2 : depth ≤ 8 := by omega
  clear hsub hdep
  have HB := hid hb
  have HW := hid h
  clear h hb
  have hb0 : Hid (Below w.heap.size w w) := hid (Below.refl _ _)
  go_enter Tryz.func22, Tryz.ntmps22
  go_wp2_with fail
  refine (isR w0 b off cap s _ ⟨#[101, 110, 117, 109]⟩ wEnum rfl (by decide) HW.out (bl_then HB.out (by have := hb0.out; exact blBy))).mono ?_
  rintro e w1 ⟨rfl, hb1⟩
  have Bs : Blk w1 (w.heap.size) 54 #[.slice (some ⟨b, off, none⟩) s.l.length cap, .int .i64 s.cd, .int .i64 0, .int .i64 s.ln, .int .i64 s.cl] := Blk.kept ((((Blk.newAt (by simp)).kept (below_alloc _)).kept (below_alloc _)).is (by first | rfl | simp)) hb1
  have Br4 : Blk w1 (w.heap.size + 1) 74 #[.bool false, .string ⟨#[]⟩, .int .i64 0, .int .i64 0, .slice none 0 0, .slice none 0 0, .slice none 0 0, .slice none 0 0, .slice none 0 0] := Blk.kept (((Blk.newAt (by simp)).kept (below_alloc _)).is (by first | rfl | simp)) hb1
  have Br5 : Blk w1 (w.heap.size + 1 + 1) 54 #[.slice none 0 0, .int .i64 0, .int .i64 0, .int .i64 0, .int .i64 0] := Blk.kept ((Blk.newAt (by simp)).is (by first | rfl | simp)) hb1
  have hs1 := hb1.size
  try simp at hs1
  have xs := Bs.cellF
  have ys := Bs.frz
  have zs : w.heap.size < w1.heap.size := by omega
  have xr4 := Br4.cellF
  have yr4 := Br4.frz
  have zr4 : w.heap.size + 1 < w1.heap.size := by omega
  have xr5 := Br5.cellF
  have yr5 := Br5.frz
  have zr5 : w.heap.size + 1 + 1 < w1.heap.size := by omega
  replace hb1 : Hid (Below w.heap.size w w1) := hid (bl_then (by have := hb0.out; exact blBy) hb1)
  rw [hi]
  go_wp2_with fail
  refine (eatR w0 b off cap s _ ⟨#[109, 101, 115, 115, 97, 103, 101]⟩ wMessage rfl (by decide) HW.out (bl_then HB.out (by have := hb1.out; exact blBy))).mono ?_
  rintro e w2 ⟨⟨s1, o1, c1, he1, rfl, hst1⟩, hb2⟩
  replace Bs : Blk w2 (w.heap.size) 54 #[.slice (some ⟨b, off, none⟩) s.l.length cap, .int .i64 s.cd, .int .i64 0, .int .i64 s.ln, .int .i64 s.cl] := Blk.kept (Bs.is (by first | rfl | simp)) hb2
  replace Br4 : Blk w2 (w.heap.size + 1) 74 #[.bool false, .string ⟨#[]⟩, .int .i64 0, .int .i64 0, .slice none 0 0, .slice none 0 0, .slice none 0 0, .slice none 0 0, .slice none 0 0] := Blk.kept (Br4.is (by first | rfl | simp)) hb2
  replace Br5 : Blk w2 (w.heap.size + 1 + 1) 54 #[.slice none 0 0, .int .i64 0, .int .i64 0, .int .i64 0, .int .i64 0] := Blk.kept (Br5.is (by first | rfl | simp)) hb2
  clear xs ys xr4 yr4 xr5 yr5
  have hs2 := hb2.size
  try simp at hs2
  have xs := Bs.cellF
  have ys := Bs.frz
  replace zs : w.heap.size < w2.heap.size := by omega
  have xr4 := Br4.cellF
  have yr4 := Br4.frz
  replace zr4 : w.heap.size + 1 < w2.heap.size := by omega
  have xr5 := Br5.cellF
  have yr5 := Br5.frz
  replace zr5 : w.heap.size + 1 + 1 < w2.heap.size := by omega
  replace hb2 : Hid (Below w.heap.size w w2) := hid (bl_then (by have := hb1.out; exact blBy) hb2)
  replace hst1 := hid hst1
  go_wp2_with fail
  refine (takeR w0 b o1 c1 s1 _ 1 (by decide) (by decide) hst1.out (bl_then HB.out (by have := hb2.out; exact blBy))).mono ?_
  rintro e w3 ⟨⟨m, s2, sa, sc, o2, c2, hm, he2, rfl, hr2, hk2, hst2⟩, hb3⟩
  replace Bs : Blk w3 (w.heap.size) 54 #[.slice (some ⟨b, o1, none⟩) s1.l.length c1, .int .i64 s1.cd, .int .i64 0, .int .i64 s1.ln, .int .i64 s1.cl] := Blk.kept ((blkall5 Bs).is (by first | rfl | simp)) hb3
  replace Br4 : Blk w3 (w.heap.size + 1) 74 #[.bool false, .string ⟨#[]⟩, .int .i64 0, .int .i64 0, .slice none 0 0, .slice none 0 0, .slice none 0 0, .slice none 0 0, .slice none 0 0] := Blk.kept ((blkoth5 Br4 (show w.heap.size + 1 ≠ w.heap.size by omega)).is (by first | rfl | simp)) hb3
  replace Br5 : Blk w3 (w.heap.size + 1 + 1) 54 #[.slice none 0 0, .int .i64 0, .int .i64 0, .int .i64 0, .int .i64 0] := Blk.kept ((blkoth5 Br5 (show w.heap.size + 1 + 1 ≠ w.heap.size by omega)).is (by first | rfl | simp)) hb3
  clear xs ys xr4 yr4 xr5 yr5
  have hs3 := hb3.size
  try simp at hs3
  have xs := Bs.cellF
  have ys := Bs.frz
  replace zs : w.heap.size < w3.heap.size := by omega
  have xr4 := Br4.cellF
  have yr4 := Br4.frz
  replace zr4 : w.heap.size + 1 < w3.heap.size := by omega
  have xr5 := Br5.cellF
  have yr5 := Br5.frz
  replace zr5 : w.heap.size + 1 + 1 < w3.heap.size := by omega
  replace hb3 : Hid (Below w.heap.size w w3) := hid (bl_then (by have := hb2.out; exact blBy) hb3)
  have HEA : Hid (msA s = (m, s2)) := hid (by unfold msA; rw [← he1.out, hm.out, he2.out])
  go_upto_region 15 with fail
  go_cut [14] from 77 to 81 (fun s8 wc => ∃ Q, s8 = .pointer (some ⟨Q, 0, none⟩) ∧ Hid (Below w.heap.size w wc) ∧ Hid (w3.heap.size + 1 < Q ∧ Q < wc.heap.size) ∧ Hid (Blk wc Q 74 #[.bool false, .string (strOfNums m.s), .int .i64 m.line, .int .i64 m.col, .slice none 0 0, .slice none 0 0, .slice none 0 0, .slice none 0 0, .slice none 0 0]) ∧ Hid (Blk wc (w.heap.size) 54 #[.slice (some ⟨b, o1, none⟩) s1.l.length c1, .int .i64 s1.cd, .int .i64 0, .int .i64 s1.ln, .int .i64 s1.cl]) ∧ Hid (Blk wc (w.heap.size + 1) 74 #[.bool false, .string ⟨#[]⟩, .int .i64 0, .int .i64 0, .slice none 0 0, .slice none 0 0, .slice none 0 0, .slice none 0 0, .slice none 0 0]) ∧ Hid (Blk wc (w.heap.size + 1 + 1) 54 #[.slice none 0 0, .int .i64 0, .int .i64 0, .int .i64 0, .int .i64 0]) ∧ Hid (Blk wc (w3.heap.size + 1) 54 #[.slice (some ⟨b, o2, none⟩) s2.l.length c2, .int .i64 s2.cd, .int .i64 0, .int .i64 s2.ln, .int .i64 s2.cl]))
  case first =>
    have Es : Blk ((w3.alloc (.cells #[.int .i64 m.kind, .string (strOfNums m.s), .int .u64 m.n, .slice sa m.b.length sc, .int .i64 m.line, .int .i64 m.col] 58)).alloc (.cells #[.slice (some ⟨b, o2, none⟩) s2.l.length c2, .int .i64 s2.cd, .int .i64 0, .int .i64 s2.ln, .int .i64 s2.cl] 54)) (w.heap.size) 54 #[.slice (some ⟨b, o1, none⟩) s1.l.length c1, .int .i64 s1.cd, .int .i64 0, .int .i64 s1.ln, .int .i64 s1.cl] := (((Bs.kept (below_alloc _)).kept (below_alloc _)).is (by first | rfl | simp))
    have Er4 : Blk ((w3.alloc (.cells #[.int .i64 m.kind, .string (strOfNums m.s), .int .u64 m.n, .slice sa m.b.length sc, .int .i64 m.line, .int .i64 m.col] 58)).alloc (.cells #[.slice (some ⟨b, o2, none⟩) s2.l.length c2, .int .i64 s2.cd, .int .i64 0, .int .i64 s2.ln, .int .i64 s2.cl] 54)) (w.heap.size + 1) 74 #[.bool false, .string ⟨#[]⟩, .int .i64 0, .int .i64 0, .slice none 0 0, .slice none 0 0, .slice none 0 0, .slice none 0 0, .slice none 0 0] := (((Br4.kept (below_alloc _)).kept (below_alloc _)).is (by first | rfl | simp))
    have Er5 : Blk ((w3.alloc (.cells #[.int .i64 m.kind, .string (strOfNums m.s), .int .u64 m.n, .slice sa m.b.length sc, .int .i64 m.line, .int .i64 m.col] 58)).alloc (.cells #[.slice (some ⟨b, o2, none⟩) s2.l.length c2, .int .i64 s2.cd, .int .i64 0, .int .i64 s2.ln, .int .i64 s2.cl] 54)) (w.heap.size + 1 + 1) 54 #[.slice none 0 0, .int .i64 0, .int .i64 0, .int .i64 0, .int .i64 0] := (((Br5.kept (below_alloc _)).kept (below_alloc _)).is (by first | rfl | simp))
    have Em : Blk ((w3.alloc (.cells #[.int .i64 m.kind, .string (strOfNums m.s), .int .u64 m.n, .slice sa m.b.length sc, .int .i64 m.line, .int .i64 m.col] 58)).alloc (.cells #[.slice (some ⟨b, o2, none⟩) s2.l.length c2, .int .i64 s2.cd, .int .i64 0, .int .i64 s2.ln, .int .i64 s2.cl] 54)) (w3.heap.size) 58 #[.int .i64 m.kind, .string (strOfNums m.s), .int .u64 m.n, .slice sa m.b.length sc, .int .i64 m.line, .int .i64 m.col] := (((Blk.newAt (by simp)).kept (below_alloc _)).is (by first | rfl | simp))
    have Ex : Blk ((w3.alloc (.cells #[.int .i64 m.kind, .string (strOfNums m.s), .int .u64 m.n, .slice sa m.b.length sc, .int .i64 m.line, .int .i64 m.col] 58)).alloc (.cells #[.slice (some ⟨b, o2, none⟩) s2.l.length c2, .int .i64 s2.cd, .int .i64 0, .int .i64 s2.ln, .int .i64 s2.cl] 54)) (w3.heap.size + 1) 54 #[.slice (some ⟨b, o2, none⟩) s2.l.length c2, .int .i64 s2.cd, .int .i64 0, .int .i64 s2.ln, .int .i64 s2.cl] := ((Blk.newAt (by simp)).is (by first | rfl | simp))
    have hbm : Hid (Below w.heap.size w ((w3.alloc (.cells #[.int .i64 m.kind, .string (strOfNums m.s), .int .u64 m.n, .slice sa m.b.length sc, .int .i64 m.line, .int .i64 m.col] 58)).alloc (.cells #[.slice (some ⟨b, o2, none⟩) s2.l.length c2, .int .i64 s2.cd, .int .i64 0, .int .i64 s2.ln, .int .i64 s2.cl] 54))) := hid (by have := hb3.out; exact blBy)
    have zwm : w3.heap.size + 1 < ((w3.alloc (.cells #[.int .i64 m.kind, .string (strOfNums m.s), .int .u64 m.n, .slice sa m.b.length sc, .int .i64 m.line, .int .i64 m.col] 58)).alloc (.cells #[.slice (some ⟨b, o2, none⟩) s2.l.length c2, .int .i64 s2.cd, .int .i64 0, .int .i64 s2.ln, .int .i64 s2.cl] 54)).heap.size := by simp
    clear Bs xs ys zs Br4 xr4 yr4 zr4 Br5 xr5 yr5 zr5
    generalize ((w3.alloc (.cells #[.int .i64 m.kind, .string (strOfNums m.s), .int .u64 m.n, .slice sa m.b.length sc, .int .i64 m.line, .int .i64 m.col] 58)).alloc (.cells #[.slice (some ⟨b, o2, none⟩) s2.l.length c2, .int .i64 s2.cd, .int .i64 0, .int .i64 s2.ln, .int .i64 s2.cl] 54)) = wm at *
    have Bs := Es
    clear Es
    have Br4 := Er4
    clear Er4
    have Br5 := Er5
    clear Er5
    have Bm := Em
    clear Em
    have Bx := Ex
    clear Ex
    have xm := Bm.cellF
    go_region_held3 (fun W => W.cell? ⟨w3.heap.size, 0, none⟩ = some (.int .i64 m.kind) ∧ W.cell? ⟨w3.heap.size, 1, none⟩ = some (.string (strOfNums m.s)) ∧ W.cell? ⟨w3.heap.size, 2, none⟩ = some (.int .u64 m.n) ∧ W.cell? ⟨w3.heap.size, 3, none⟩ = some (.slice sa m.b.length sc) ∧ W.cell? ⟨w3.heap.size, 4, none⟩ = some (.int .i64 m.line) ∧ W.cell? ⟨w3.heap.size, 5, none⟩ = some (.int .i64 m.col)) ((refine blkc6 (t := 58) ?_; (with_reducible repeat (first | exact Vmu1.out | exact Bm | refine Blk.oth ?_ | refine Blk.kept ?_ (below_drew1 _) | refine Blk.kept ?_ (below_alloc _))); done)) (first | (go_at_call 20; refine (atR _ m sa sc).mono ?_; rintro e u1 ⟨rfl, hbu⟩; have Vsu1 : Hid (Blk u1 (w.heap.size) 54 #[.slice (some ⟨b, o1, none⟩) s1.l.length c1, .int .i64 s1.cd, .int .i64 0, .int .i64 s1.ln, .int .i64 s1.cl]) := hid (Blk.kept (by (with_reducible repeat (first | exact Bs | refine Blk.oth ?_ | refine Blk.kept ?_ (below_drew1 _) | refine Blk.kept ?_ (below_alloc _))); done) hbu); have Vr4u1 : Hid (Blk u1 (w.heap.size + 1) 74 #[.bool false, .string ⟨#[]⟩, .int .i64 0, .int .i64 0, .slice none 0 0, .slice none 0 0, .slice none 0 0, .slice none 0 0, .slice none 0 0]) := hid (Blk.kept (by (with_reducible repeat (first | exact Br4 | refine Blk.oth ?_ | refine Blk.kept ?_ (below_drew1 _) | refine Blk.kept ?_ (below_alloc _))); done) hbu); have Vr5u1 : Hid (Blk u1 (w.heap.size + 1 + 1) 54 #[.slice none 0 0, .int .i64 0, .int .i64 0, .int .i64 0, .int .i64 0]) := hid (Blk.kept (by (with_reducible repeat (first | exact Br5 | refine Blk.oth ?_ | refine Blk.kept ?_ (below_drew1 _) | refine Blk.kept ?_ (below_alloc _))); done) hbu); have Vmu1 : Hid (Blk u1 (w3.heap.size) 58 #[.int .i64 m.kind, .string (strOfNums m.s), .int .u64 m.n, .slice sa m.b.length sc, .int .i64 m.line, .int .i64 m.col]) := hid (Blk.kept (by (with_reducible repeat (first | exact Bm | refine Blk.oth ?_ | refine Blk.kept ?_ (below_drew1 _) | refine Blk.kept ?_ (below_alloc _))); done) hbu); have Vxu1 : Hid (Blk u1 (w3.heap.size + 1) 54 #[.slice (some ⟨b, o2, none⟩) s2.l.length c2, .int .i64 s2.cd, .int .i64 0, .int .i64 s2.ln, .int .i64 s2.cl]) := hid (Blk.kept (by (with_reducible repeat (first | exact Bx | refine Blk.oth ?_ | refine Blk.kept ?_ (below_drew1 _) | refine Blk.kept ?_ (below_alloc _))); done) hbu); (try have X1 : Hid (Blk u1 wm.heap.size 74 #[.bool false, .string ⟨#[]⟩, .int .i64 0, .int .i64 0, .slice none 0 0, .slice none 0 0, .slice none 0 0, .slice none 0 0, .slice none 0 0]) := hid (Blk.kept (by first | with_reducible exact (Blk.newAt (w := wm) rfl).kept (below_drew1 _) | with_reducible exact Blk.newAt (w := wm.drew) rfl) hbu)); (try have xx1 := X1.out.cellF); (try have xy1 := X1.out.frz); have hsu1 := hbu.size; (try simp at hsu1); have hbb1 : Hid (Below w.heap.size w u1) := hid (bl_then (by have := hbm.out; exact blBy) hbu); clear hbu))
    all_goals (go_wp2_with fail; go_meet; first | (have hq := X1; exact ⟨wm.heap.size, rfl, hid (by have := hbb1.out; exact blBy), hid ⟨by omega, by first | (simp; done) | (simp; omega) | omega⟩, hid (blkall9 X1.out), hid (by (with_reducible repeat (first | exact Vsu1.out | refine blkoth9 ?_ (by omega) | refine Blk.oth ?_ | refine Blk.kept ?_ (below_drew1 _) | refine Blk.kept ?_ (below_alloc _))); done), hid (by (with_reducible repeat (first | exact Vr4u1.out | refine blkoth9 ?_ (by omega) | refine Blk.oth ?_ | refine Blk.kept ?_ (below_drew1 _) | refine Blk.kept ?_ (below_alloc _))); done), hid (by (with_reducible repeat (first | exact Vr5u1.out | refine blkoth9 ?_ (by omega) | refine Blk.oth ?_ | refine Blk.kept ?_ (below_drew1 _) | refine Blk.kept ?_ (below_alloc _))); done), hid (by (with_reducible repeat (first | exact Vxu1.out | refine blkoth9 ?_ (by omega) | refine Blk.oth ?_ | refine Blk.kept ?_ (below_drew1 _) | refine Blk.kept ?_ (below_alloc _))); done)⟩) | (exact ⟨u1.heap.size, rfl, hid (by have := hbb1.out; exact blBy), hid ⟨by omega, by first | (simp; done) | (simp; omega) | omega⟩, hid (Blk.newAt rfl), hid (by (with_reducible repeat (first | exact Vsu1.out | refine blkoth9 ?_ (by omega) | refine Blk.oth ?_ | refine Blk.kept ?_ (below_drew1 _) | refine Blk.kept ?_ (below_alloc _))); done), hid (by (with_reducible repeat (first | exact Vr4u1.out | refine blkoth9 ?_ (by omega) | refine Blk.oth ?_ | refine Blk.kept ?_ (below_drew1 _) | refine Blk.kept ?_ (below_alloc _))); done), hid (by (with_reducible repeat (first | exact Vr5u1.out | refine blkoth9 ?_ (by omega) | refine Blk.oth ?_ | refine Blk.kept ?_ (below_drew1 _) | refine Blk.kept ?_ (below_alloc _))); done), hid (by (with_reducible repeat (first | exact Vxu1.out | refine blkoth9 ?_ (by omega) | refine Blk.oth ?_ | refine Blk.kept ?_ (below_drew1 _) | refine Blk.kept ?_ (below_alloc _))); done)⟩))
  case rest =>
    obtain ⟨Q, rfl, hb0, hQ, BQ, BS, B4, B5, BX⟩ := hcut
    have hQ1 := hQ.out.1
    have hQ2 := hQ.out.2
    clear Bs xs ys zs Br4 xr4 yr4 zr4 Br5 xr5 yr5 zr5
    have Bs := BS.out
    have Br4 := B4.out
    have Br5 := B5.out
    have Bx := BX.out
    have Bq := BQ.out
    have xs := Bs.cellF
    have ys := Bs.frz
    have zs : w.heap.size < wc.heap.size := by omega
    have xr4 := Br4.cellF
    have yr4 := Br4.frz
    have zr4 : w.heap.size + 1 < wc.heap.size := by omega
    have xr5 := Br5.cellF
    have yr5 := Br5.frz
    have zr5 : w.heap.size + 1 + 1 < wc.heap.size := by omega
    have xx := Bx.cellF
    have yx := Bx.frz
    have zx : w3.heap.size + 1 < wc.heap.size := by omega
    have xq := Bq.cellF
    have yq := Bq.frz
    have zq : Q < wc.heap.size := by omega
    clear BQ BS B4 B5 BX hQ
    go_wp2_with fail
    refine (eatR w0 b o2 c2 s2 _ ⟨#[123]⟩ [123] rfl (by decide) hst2.out (bl_then HB.out (by have := hb0.out; exact blBy))).mono ?_
    rintro e v1 ⟨⟨s3, o3, c3, he3, rfl, hst3⟩, hb1⟩
    replace Bs : Blk v1 (w.heap.size) 54 #[.slice (some ⟨b, o1, none⟩) s1.l.length c1, .int .i64 s1.cd, .int .i64 0, .int .i64 s1.ln, .int .i64 s1.cl] := Blk.kept (Bs.is (by first | rfl | simp)) hb1
    replace Br4 : Blk v1 (w.heap.size + 1) 74 #[.bool false, .string ⟨#[]⟩, .int .i64 0, .int .i64 0, .slice none 0 0, .slice none 0 0, .slice none 0 0, .slice none 0 0, .slice none 0 0] := Blk.kept (Br4.is (by first | rfl | simp)) hb1
    replace Br5 : Blk v1 (w.heap.size + 1 + 1) 54 #[.slice none 0 0, .int .i64 0, .int .i64 0, .int .i64 0, .int .i64 0] := Blk.kept (Br5.is (by first | rfl | simp)) hb1
    replace Bq : Blk v1 (Q) 74 #[.bool false, .string (strOfNums m.s), .int .i64 m.line, .int .i64 m.col, .slice none 0 0, .slice none 0 0, .slice none 0 0, .slice none 0 0, .slice none 0 0] := Blk.kept (Bq.is (by first | rfl | simp)) hb1
    clear xs ys xr4 yr4 xr5 yr5 xq yq
    have hs1 := hb1.size
    try simp at hs1
    have xs := Bs.cellF
    have ys := Bs.frz
    replace zs : w.heap.size < v1.heap.size := by omega
    have xr4 := Br4.cellF
    have yr4 := Br4.frz
    replace zr4 : w.heap.size + 1 < v1.heap.size := by omega
    have xr5 := Br5.cellF
    have yr5 := Br5.frz
    replace zr5 : w.heap.size + 1 + 1 < v1.heap.size := by omega
    have xq := Bq.cellF
    have yq := Bq.frz
    replace zq : Q < v1.heap.size := by omega
    replace hb1 : Hid (Below w.heap.size w v1) := hid (bl_then (by have := hb0.out; exact blBy) hb1)
    replace hst3 := hid hst3
    have HEM : Hid (msgM (dclM L) s = ((memL (dclM L) (⟨false, m.s, atM m, [], [], [], [], []⟩, s3)).1, eatM (memL (dclM L) (⟨false, m.s, atM m, [], [], [], [], []⟩, s3)).2 [125])) := hid (by unfold msgM msB; rw [HEA.out]; dsimp only; rw [← he3.out])
    have HBB : Hid (w0.heap.size ≤ v1.heap.size ∧ w.heap.size ≤ v1.heap.size) := hid ⟨Nat.le_trans HB.out.size hb1.out.size, hb1.out.size⟩
    go_wp2
    go_loopw [] (fun wr => ∃ x t o c, Hid (memL (dclM L) (⟨false, m.s, atM m, [], [], [], [], []⟩, s3) = memL (dclM L) (x.d, t)) ∧ Hid (StR w0 b o c t) ∧ Hid (Below w.heap.size w wr) ∧ Hid (Q < v1.heap.size ∧ v1.heap.size ≤ wr.heap.size) ∧ Hid (Blk wr (w.heap.size) 54 #[.slice (some ⟨b, o, none⟩) t.l.length c, .int .i64 t.cd, .int .i64 0, .int .i64 t.ln, .int .i64 t.cl]) ∧ Hid (Blk wr Q 74 #[.bool x.d.enum, .string (strOfNums x.d.name), .int .i64 x.d.at1.1, .int .i64 x.d.at1.2, x.f, x.o, x.dd, x.r, x.s]) ∧ Hid (Blk wr (w.heap.size + 1) 74 #[.bool false, .string ⟨#[]⟩, .int .i64 0, .int .i64 0, .slice none 0 0, .slice none 0 0, .slice none 0 0, .slice none 0 0, .slice none 0 0]) ∧ Hid (Blk wr (w.heap.size + 1 + 1) 54 #[.slice none 0 0, .int .i64 0, .int .i64 0, .int .i64 0, .int .i64 0]) ∧ Hid (OwnD wr v1.heap.size (L + 1) 78 139 74 136 126 (fun _ => False) x) ∧ Hid (tot x.d + 3 * muM t ≤ 300000)) (fun wr => muW wr w.heap.size)
    case atStart => exact ⟨⟨⟨false, m.s, atM m, [], [], [], [], []⟩, .slice none 0 0, .slice none 0 0, .slice none 0 0, .slice none 0 0, .slice none 0 0⟩, s3, o3, c3, hid rfl, hst3, hid (by have := hb1.out; exact blBy), hid ⟨by omega, by simp⟩, hid ((blkall5 Bs).is (by first | rfl | simp)), hid ((blkoth5 Bq (show Q ≠ w.heap.size by omega)).is (by first | rfl | simp)), hid ((blkoth5 Br4 (show w.heap.size + 1 ≠ w.heap.size by omega)).is (by first | rfl | simp)), hid ((blkoth5 Br5 (show w.heap.size + 1 + 1 ≠ w.heap.size by omega)).is (by first | rfl | simp)), hid (OwnD.nil _ _ _ _ _ _ _ _ _ (fun _ h => h.elim) _ _ _), hid (by unfold tot muM; split; (have := hst3.out.ws.len; simp; omega); simp)⟩
    case round =>
      obtain ⟨x, t, o, c, hml, hst, hb0, hsz, BS, BQ, B4, B5, HOW, htot⟩ := hrel
      obtain ⟨xd, xf, xo, xdd, xr, xs'⟩ := x
      dsimp only at *
      obtain ⟨fa, fc, rfl⟩ : ∃ a c, xf = .slice a xd.fields.length c := own_shape HOW.out.f
      obtain ⟨oa, oc, rfl⟩ : ∃ a c, xo = .slice a xd.oneofs.length c := own_shape HOW.out.o
      obtain ⟨ra, rc, rfl⟩ : ∃ a c, xr = .slice a xd.res.length c := own_shape HOW.out.r
      obtain ⟨ya, yc, rfl⟩ : ∃ a c, xs' = .slice a xd.syms.length c := own_shape HOW.out.s
      obtain ⟨da, dc, rfl⟩ : ∃ a c, xdd = .slice a xd.decls.length c := HOW.out.ddS
      clear Bs xs ys zs Br4 xr4 yr4 zr4 Br5 xr5 yr5 zr5 Bq xq yq zq
      have hz1 := hsz.out.1
      have hz2 := hsz.out.2
      have Bs := BS.out
      have Bq := BQ.out
      have Br4 := B4.out
      have Br5 := B5.out
      have xs := Bs.cellF
      have ys := Bs.frz
      have zs := Bs.lt
      have xq := Bq.cellF
      have yq := Bq.frz
      have zq := Bq.lt
      have xr4 := Br4.cellF
      have yr4 := Br4.frz
      have zr4 := Br4.lt
      have xr5 := Br5.cellF
      have yr5 := Br5.frz
      have zr5 := Br5.lt
      have hm0 := muW_is Bs
      by_cases hcd : t.cd = 0
      · cases hj : isM t [125] with
        | true =>
          have HSS := hid (memLr_stop (L := L) (d := xd) hj)
          have k3 : (t.cd == 0) = true := by rw [hcd]; rfl
          replace hcd := hid hcd
          go_wp2_with fail
          refine (isR w0 b o c t _ ⟨#[125]⟩ [125] rfl (by decide) hst.out (bl_then HB.out (by have := hb0.out; exact blBy))).mono ?_
          rintro e y1 ⟨rfl, hb1⟩
          have HV := hid hb1
          replace Bs : Blk y1 (w.heap.size) 54 #[.slice (some ⟨b, o, none⟩) t.l.length c, .int .i64 t.cd, .int .i64 0, .int .i64 t.ln, .int .i64 t.cl] := Blk.kept (Bs.is (by first | rfl | simp)) hb1
          replace Bq : Blk y1 (Q) 74 #[.bool xd.enum, .string (strOfNums xd.name), .int .i64 xd.at1.1, .int .i64 xd.at1.2, .slice fa xd.fields.length fc, .slice oa xd.oneofs.length oc, .slice da xd.decls.length dc, .slice ra xd.res.length rc, .slice ya xd.syms.length yc] := Blk.kept (Bq.is (by first | rfl | simp)) hb1
          replace Br4 : Blk y1 (w.heap.size + 1) 74 #[.bool false, .string ⟨#[]⟩, .int .i64 0, .int .i64 0, .slice none 0 0, .slice none 0 0, .slice none 0 0, .slice none 0 0, .slice none 0 0] := Blk.kept (Br4.is (by first | rfl | simp)) hb1
          replace Br5 : Blk y1 (w.heap.size + 1 + 1) 54 #[.slice none 0 0, .int .i64 0, .int .i64 0, .int .i64 0, .int .i64 0] := Blk.kept (Br5.is (by first | rfl | simp)) hb1
          clear xs ys xq yq xr4 yr4 xr5 yr5
          have hs1 := hb1.size
          try simp at hs1
          have xs := Bs.cellF
          have ys := Bs.frz
          replace zs : w.heap.size < y1.heap.size := by omega
          have xq := Bq.cellF
          have yq := Bq.frz
          replace zq : Q < y1.heap.size := by omega
          have xr4 := Br4.cellF
          have yr4 := Br4.frz
          replace zr4 : w.heap.size + 1 < y1.heap.size := by omega
          have xr5 := Br5.cellF
          have yr5 := Br5.frz
          replace zr5 : w.heap.size + 1 + 1 < y1.heap.size := by omega
          replace hb1 : Hid (Below w.heap.size w y1) := hid (bl_then (by have := hb0.out; exact blBy) hb1)
          rw [hj]
          have HOk := hid (HOW.out.kept HV.out)
          go_wp2_with fail
          go_region_held3 (fun W => (W.cell? ⟨Q, 0, none⟩ = some (.bool xd.enum) ∧ W.cell? ⟨Q, 1, none⟩ = some (.string (strOfNums xd.name)) ∧ W.cell? ⟨Q, 2, none⟩ = some (.int .i64 xd.at1.1) ∧ W.cell? ⟨Q, 3, none⟩ = some (.int .i64 xd.at1.2) ∧ W.cell? ⟨Q, 4, none⟩ = some (.slice fa xd.fields.length fc) ∧ W.cell? ⟨Q, 5, none⟩ = some (.slice oa xd.oneofs.length oc) ∧ W.cell? ⟨Q, 6, none⟩ = some (.slice da xd.decls.length dc) ∧ W.cell? ⟨Q, 7, none⟩ = some (.slice ra xd.res.length rc) ∧ W.cell? ⟨Q, 8, none⟩ = some (.slice ya xd.syms.length yc)) ∧ (W.cell? ⟨w.heap.size, 0, none⟩ = some (.slice (some ⟨b, o, none⟩) t.l.length c) ∧ W.cell? ⟨w.heap.size, 1, none⟩ = some (.int .i64 t.cd) ∧ W.cell? ⟨w.heap.size, 2, none⟩ = some (.int .i64 0) ∧ W.cell? ⟨w.heap.size, 3, none⟩ = some (.int .i64 t.ln) ∧ W.cell? ⟨w.heap.size, 4, none⟩ = some (.int .i64 t.cl))) ((refine ⟨blkc9 (t := 74) ?_, blkc5 (t := 54) ?_⟩ <;> (with_reducible repeat (first | exact Vqu9.out | exact Vsu9.out | exact Bq | exact Bs | refine Blk.oth ?_ | refine Blk.kept ?_ (below_drew1 _) | refine Blk.kept ?_ (below_alloc _))); done)) (first | (go_at_call 18; refine (eatR w0 b o c t _ ⟨#[125]⟩ [125] rfl (by decide) hst.out (bl_then HB.out (by have := hb1.out; exact blBy))).mono ?_; rintro e u9 ⟨⟨s9, o9, c9, he9, rfl, hst9⟩, hbu⟩; have Vqu9 : Hid (Blk u9 (Q) 74 #[.bool xd.enum, .string (strOfNums xd.name), .int .i64 xd.at1.1, .int .i64 xd.at1.2, .slice fa xd.fields.length fc, .slice oa xd.oneofs.length oc, .slice da xd.decls.length dc, .slice ra xd.res.length rc, .slice ya xd.syms.length yc]) := hid (Blk.kept (by (with_reducible repeat (first | exact Bq | refine Blk.oth ?_ | refine Blk.kept ?_ (below_drew1 _) | refine Blk.kept ?_ (below_alloc _))); done) hbu); have Vsu9 : Hid (Blk u9 (w.heap.size) 54 #[.slice (some ⟨b, o, none⟩) t.l.length c, .int .i64 t.cd, .int .i64 0, .int .i64 t.ln, .int .i64 t.cl]) := hid (Blk.kept (by (with_reducible repeat (first | exact Bs | refine Blk.oth ?_ | refine Blk.kept ?_ (below_drew1 _) | refine Blk.kept ?_ (below_alloc _))); done) hbu); have Vr4u9 : Hid (Blk u9 (w.heap.size + 1) 74 #[.bool false, .string ⟨#[]⟩, .int .i64 0, .int .i64 0, .slice none 0 0, .slice none 0 0, .slice none 0 0, .slice none 0 0, .slice none 0 0]) := hid (Blk.kept (by (with_reducible repeat (first | exact Br4 | refine Blk.oth ?_ | refine Blk.kept ?_ (below_drew1 _) | refine Blk.kept ?_ (below_alloc _))); done) hbu); have Vr5u9 : Hid (Blk u9 (w.heap.size + 1 + 1) 54 #[.slice none 0 0, .int .i64 0, .int .i64 0, .int .i64 0, .int .i64 0]) := hid (Blk.kept (by (with_reducible repeat (first | exact Br5 | refine Blk.oth ?_ | refine Blk.kept ?_ (below_drew1 _) | refine Blk.kept ?_ (below_alloc _))); done) hbu); have vx4 := Vr4u9.out.cellF; have vy4 := Vr4u9.out.frz; have vx5 := Vr5u9.out.cellF; have vy5 := Vr5u9.out.frz; have HO9 : Hid (OwnD u9 v1.heap.size (L + 1) 78 139 74 136 126 (fun _ => False) ⟨xd, .slice fa xd.fields.length fc, .slice oa xd.oneofs.length oc, .slice da xd.decls.length dc, .slice ra xd.res.length rc, .slice ya xd.syms.length yc⟩) := hid ((HOk.out.kept (below_drew1 _)).kept hbu); have hsu := hbu.size; (try simp at hsu); have hbb : Hid (Below w.heap.size w u9) := hid (bl_then (by have := hb1.out; exact blBy) hbu); replace hst9 := hid hst9; clear hbu))
          all_goals go_wp2
          all_goals exact bodyPost_ret (v := .tuple #[.agg #[.bool xd.enum, .string (strOfNums xd.name), .int .i64 xd.at1.1, .int .i64 xd.at1.2, .slice fa xd.fields.length fc, .slice oa xd.oneofs.length oc, .slice da xd.decls.length dc, .slice ra xd.res.length rc, .slice ya xd.syms.length yc], .agg #[.slice (some ⟨b, o9, none⟩) s9.l.length c9, .int .i64 s9.cd, .int .i64 0, .int .i64 s9.ln, .int .i64 s9.cl]]) (by simp [results, Tryz.results22, go_sem, vx4, vx5, zr4, zr5]) rfl ⟨⟨⟨xd, .slice fa xd.fields.length fc, .slice oa xd.oneofs.length oc, .slice da xd.decls.length dc, .slice ra xd.res.length rc, .slice ya xd.syms.length yc⟩, s9, o9, c9, hid (by rw [HEM.out]; simp only []; rw [hml.out, HSS.out]), hid (by rw [HEM.out]; simp only []; rw [hml.out, HSS.out]; exact he9.out), rfl, hid (RD.weak (fun q hq => ⟨Nat.le_trans HBB.out.2 hq.1, hq.2⟩) _ _ (HO9.out.keep (f := fun k => k ≠ w.heap.size + 1 ∧ k ≠ w.heap.size + 1 + 1) (by exact kpBy) (fun q hq _ => ⟨fun e => by omega, fun e => by omega⟩)).rd), hst9⟩, by have := hbb.out; exact blBy⟩
        | false =>
          have HSG := hid (memLr_go (L := L) (d := xd) (s := t) hcd hj)
          have k3 : (t.cd == 0) = true := by rw [hcd]; rfl
          have HLT : Hid (muM (memM (dclM L) (xd, t)).2 < muM t) := hid (mem_dec (x := (xd, t)) (fun s hs => mu_dcl_lt L hs) hcd)
          have HTO : Hid (tot (memM (dclM L) (xd, t)).1 + 3 * muM (memM (dclM L) (xd, t)).2 ≤ 300000) := hid (Nat.le_trans (mem_tot (x := (xd, t)) (fun s hs => mu_dcl_lt L hs) hcd) htot.out)
          replace hcd := hid hcd
          go_wp2_with fail
          refine (isR w0 b o c t _ ⟨#[125]⟩ [125] rfl (by decide) hst.out (bl_then HB.out (by have := hb0.out; exact blBy))).mono ?_
          rintro e y1 ⟨rfl, hb1⟩
          have HV := hid hb1
          replace Bs : Blk y1 (w.heap.size) 54 #[.slice (some ⟨b, o, none⟩) t.l.length c, .int .i64 t.cd, .int .i64 0, .int .i64 t.ln, .int .i64 t.cl] := Blk.kept (Bs.is (by first | rfl | simp)) hb1
          replace Bq : Blk y1 (Q) 74 #[.bool xd.enum, .string (strOfNums xd.name), .int .i64 xd.at1.1, .int .i64 xd.at1.2, .slice fa xd.fields.length fc, .slice oa xd.oneofs.length oc, .slice da xd.decls.length dc, .slice ra xd.res.length rc, .slice ya xd.syms.length yc] := Blk.kept (Bq.is (by first | rfl | simp)) hb1
          replace Br4 : Blk y1 (w.heap.size + 1) 74 #[.bool false, .string ⟨#[]⟩, .int .i64 0, .int .i64 0, .slice none 0 0, .slice none 0 0, .slice none 0 0, .slice none 0 0, .slice none 0 0] := Blk.kept (Br4.is (by first | rfl | simp)) hb1
          replace Br5 : Blk y1 (w.heap.size + 1 + 1) 54 #[.slice none 0 0, .int .i64 0, .int .i64 0, .int .i64 0, .int .i64 0] := Blk.kept (Br5.is (by first | rfl | simp)) hb1
          clear xs ys xq yq xr4 yr4 xr5 yr5
          have hs1 := hb1.size
          try simp at hs1
          have xs := Bs.cellF
          have ys := Bs.frz
          replace zs : w.heap.size < y1.heap.size := by omega
          have xq := Bq.cellF
          have yq := Bq.frz
          replace zq : Q < y1.heap.size := by omega
          have xr4 := Br4.cellF
          have yr4 := Br4.frz
          replace zr4 : w.heap.size + 1 < y1.heap.size := by omega
          have xr5 := Br5.cellF
          have yr5 := Br5.frz
          replace zr5 : w.heap.size + 1 + 1 < y1.heap.size := by omega
          replace hb1 : Hid (Below w.heap.size w y1) := hid (bl_then (by have := hb0.out; exact blBy) hb1)
          rw [hj]
          have HOk := hid (HOW.out.kept HV.out)
          have hv1 : v1.heap.size ≤ y1.heap.size := by omega
          go_wp2_with fail
          refine (memberR w0 b o c t y1 v1.heap.size (L + 1) ⟨xd, .slice fa xd.fields.length fc, .slice oa xd.oneofs.length oc, .slice da xd.decls.length dc, .slice ra xd.res.length rc, .slice ya xd.syms.length yc⟩ depth (dclM L) (fun W hW => HSU.out t o c W hst.out hW) hd0 hdl2 htot.out hst.out (bl_then HB.out hb1.out) HBB.out.1 hv1 HOk.out).mono ?_
          rintro e y2 ⟨x', t2, o2', c2', hx, ht2, rfl, HO2, hst2', HK2⟩
          have hs2 := HK2.size
          have Ds : Blk y2 (w.heap.size) 54 #[.slice (some ⟨b, o, none⟩) t.l.length c, .int .i64 t.cd, .int .i64 0, .int .i64 t.ln, .int .i64 t.cl] := Bs.keep HK2 (show w.heap.size < v1.heap.size by omega)
          have Dq : Blk y2 (Q) 74 #[.bool xd.enum, .string (strOfNums xd.name), .int .i64 xd.at1.1, .int .i64 xd.at1.2, .slice fa xd.fields.length fc, .slice oa xd.oneofs.length oc, .slice da xd.decls.length dc, .slice ra xd.res.length rc, .slice ya xd.syms.length yc] := Bq.keep HK2 (show Q < v1.heap.size by omega)
          have Dr4 : Blk y2 (w.heap.size + 1) 74 #[.bool false, .string ⟨#[]⟩, .int .i64 0, .int .i64 0, .slice none 0 0, .slice none 0 0, .slice none 0 0, .slice none 0 0, .slice none 0 0] := Br4.keep HK2 (show w.heap.size + 1 < v1.heap.size by omega)
          have Dr5 : Blk y2 (w.heap.size + 1 + 1) 54 #[.slice none 0 0, .int .i64 0, .int .i64 0, .int .i64 0, .int .i64 0] := Br5.keep HK2 (show w.heap.size + 1 + 1 < v1.heap.size by omega)
          have hb2 : Hid (Below w.heap.size w y2) := hid (hb1.out.trans (HK2.below hb1.out.size (fun k hk => Nat.lt_of_lt_of_le hk HBB.out.2)))
          obtain ⟨zd, zf, zo, zdd, zr, zs'⟩ := x'
          dsimp only at *
          obtain ⟨ga2, gc2, rfl⟩ : ∃ a c, zf = .slice a zd.fields.length c := own_shape HO2.out.f
          obtain ⟨pa2, pc2, rfl⟩ : ∃ a c, zo = .slice a zd.oneofs.length c := own_shape HO2.out.o
          obtain ⟨qa2, qc2, rfl⟩ : ∃ a c, zr = .slice a zd.res.length c := own_shape HO2.out.r
          obtain ⟨ha2, hc2, rfl⟩ : ∃ a c, zs' = .slice a zd.syms.length c := own_shape HO2.out.s
          obtain ⟨ea2, ec2, rfl⟩ : ∃ a c, zdd = .slice a zd.decls.length c := HO2.out.ddS
          clear Bs xs ys zs Br4 xr4 yr4 zr4 Br5 xr5 yr5 zr5 Bq xq yq zq HK2
          have xs := Ds.cellF
          have ys := Ds.frz
          have zs := Ds.lt
          have xq := Dq.cellF
          have yq := Dq.frz
          have zq := Dq.lt
          have xr4 := Dr4.cellF
          have yr4 := Dr4.frz
          have zr4 := Dr4.lt
          have xr5 := Dr5.cellF
          have yr5 := Dr5.frz
          have zr5 := Dr5.lt
          go_wp2
          exact ⟨⟨⟨zd, .slice ga2 zd.fields.length gc2, .slice pa2 zd.oneofs.length pc2, .slice ea2 zd.decls.length ec2, .slice qa2 zd.res.length qc2, .slice ha2 zd.syms.length hc2⟩, t2, o2', c2', hid (by rw [hml.out, HSG.out, hx.out, ht2.out]), hst2', hid (by have := hb2.out; exact blBy), hid ⟨hz1, by simp; omega⟩, hid (blkall5 (blkoth9 Ds (show w.heap.size ≠ Q by omega))), hid (blkoth5 (blkall9 Dq) (show Q ≠ w.heap.size by omega)), hid (blkoth5 (blkoth9 Dr4 (show w.heap.size + 1 ≠ Q by omega)) (show w.heap.size + 1 ≠ w.heap.size by omega)), hid (blkoth5 (blkoth9 Dr5 (show w.heap.size + 1 + 1 ≠ Q by omega)) (show w.heap.size + 1 + 1 ≠ w.heap.size by omega)), hid (HO2.out.keep (f := fun k => k ≠ Q ∧ k ≠ w.heap.size) (by exact kpBy) (fun q hq _ => ⟨fun e => by omega, fun e => by omega⟩)), hid (by have := HTO.out; rw [← hx.out, ← ht2.out] at this; exact this)⟩, by rw [hm0, muW_is (blkall5 (blkoth9 Ds (show w.heap.size ≠ Q by omega)))]; have := HLT.out; rw [← ht2.out] at this; exact this⟩
      · have k3 : (t.cd == 0) = false := by simpa using hcd
        have HSS := hid (memL_bad hcd (dclM L) xd)
        replace hcd := hid hcd
        have HOk := HOW
        go_wp2_with fail
        go_region_held3 (fun W => (W.cell? ⟨Q, 0, none⟩ = some (.bool xd.enum) ∧ W.cell? ⟨Q, 1, none⟩ = some (.string (strOfNums xd.name)) ∧ W.cell? ⟨Q, 2, none⟩ = some (.int .i64 xd.at1.1) ∧ W.cell? ⟨Q, 3, none⟩ = some (.int .i64 xd.at1.2) ∧ W.cell? ⟨Q, 4, none⟩ = some (.slice fa xd.fields.length fc) ∧ W.cell? ⟨Q, 5, none⟩ = some (.slice oa xd.oneofs.length oc) ∧ W.cell? ⟨Q, 6, none⟩ = some (.slice da xd.decls.length dc) ∧ W.cell? ⟨Q, 7, none⟩ = some (.slice ra xd.res.length rc) ∧ W.cell? ⟨Q, 8, none⟩ = some (.slice ya xd.syms.length yc)) ∧ (W.cell? ⟨w.heap.size, 0, none⟩ = some (.slice (some ⟨b, o, none⟩) t.l.length c) ∧ W.cell? ⟨w.heap.size, 1, none⟩ = some (.int .i64 t.cd) ∧ W.cell? ⟨w.heap.size, 2, none⟩ = some (.int .i64 0) ∧ W.cell? ⟨w.heap.size, 3, none⟩ = some (.int .i64 t.ln) ∧ W.cell? ⟨w.heap.size, 4, none⟩ = some (.int .i64 t.cl))) ((refine ⟨blkc9 (t := 74) ?_, blkc5 (t := 54) ?_⟩ <;> (with_reducible repeat (first | exact Vqu9.out | exact Vsu9.out | exact Bq | exact Bs | refine Blk.oth ?_ | refine Blk.kept ?_ (below_drew1 _) | refine Blk.kept ?_ (below_alloc _))); done)) (first | (go_at_call 18; refine (eatR w0 b o c t _ ⟨#[125]⟩ [125] rfl (by decide) hst.out (bl_then HB.out (by have := hb0.out; exact blBy))).mono ?_; rintro e u9 ⟨⟨s9, o9, c9, he9, rfl, hst9⟩, hbu⟩; have Vqu9 : Hid (Blk u9 (Q) 74 #[.bool xd.enum, .string (strOfNums xd.name), .int .i64 xd.at1.1, .int .i64 xd.at1.2, .slice fa xd.fields.length fc, .slice oa xd.oneofs.length oc, .slice da xd.decls.length dc, .slice ra xd.res.length rc, .slice ya xd.syms.length yc]) := hid (Blk.kept (by (with_reducible repeat (first | exact Bq | refine Blk.oth ?_ | refine Blk.kept ?_ (below_drew1 _) | refine Blk.kept ?_ (below_alloc _))); done) hbu); have Vsu9 : Hid (Blk u9 (w.heap.size) 54 #[.slice (some ⟨b, o, none⟩) t.l.length c, .int .i64 t.cd, .int .i64 0, .int .i64 t.ln, .int .i64 t.cl]) := hid (Blk.kept (by (with_reducible repeat (first | exact Bs | refine Blk.oth ?_ | refine Blk.kept ?_ (below_drew1 _) | refine Blk.kept ?_ (below_alloc _))); done) hbu); have Vr4u9 : Hid (Blk u9 (w.heap.size + 1) 74 #[.bool false, .string ⟨#[]⟩, .int .i64 0, .int .i64 0, .slice none 0 0, .slice none 0 0, .slice none 0 0, .slice none 0 0, .slice none 0 0]) := hid (Blk.kept (by (with_reducible repeat (first | exact Br4 | refine Blk.oth ?_ | refine Blk.kept ?_ (below_drew1 _) | refine Blk.kept ?_ (below_alloc _))); done) hbu); have Vr5u9 : Hid (Blk u9 (w.heap.size + 1 + 1) 54 #[.slice none 0 0, .int .i64 0, .int .i64 0, .int .i64 0, .int .i64 0]) := hid (Blk.kept (by (with_reducible repeat (first | exact Br5 | refine Blk.oth ?_ | refine Blk.kept ?_ (below_drew1 _) | refine Blk.kept ?_ (below_alloc _))); done) hbu); have vx4 := Vr4u9.out.cellF; have vy4 := Vr4u9.out.frz; have vx5 := Vr5u9.out.cellF; have vy5 := Vr5u9.out.frz; have HO9 : Hid (OwnD u9 v1.heap.size (L + 1) 78 139 74 136 126 (fun _ => False) ⟨xd, .slice fa xd.fields.length fc, .slice oa xd.oneofs.length oc, .slice da xd.decls.length dc, .slice ra xd.res.length rc, .slice ya xd.syms.length yc⟩) := hid ((HOk.out.kept (below_drew1 _)).kept hbu); have hsu := hbu.size; (try simp at hsu); have hbb : Hid (Below w.heap.size w u9) := hid (bl_then (by have := hb0.out; exact blBy) hbu); replace hst9 := hid hst9; clear hbu))
        all_goals go_wp2
        all_goals exact bodyPost_ret (v := .tuple #[.agg #[.bool xd.enum, .string (strOfNums xd.name), .int .i64 xd.at1.1, .int .i64 xd.at1.2, .slice fa xd.fields.length fc, .slice oa xd.oneofs.length oc, .slice da xd.decls.length dc, .slice ra xd.res.length rc, .slice ya xd.syms.length yc], .agg #[.slice (some ⟨b, o9, none⟩) s9.l.length c9, .int .i64 s9.cd, .int .i64 0, .int .i64 s9.ln, .int .i64 s9.cl]]) (by simp [results, Tryz.results22, go_sem, vx4, vx5, zr4, zr5]) rfl ⟨⟨⟨xd, .slice fa xd.fields.length fc, .slice oa xd.oneofs.length oc, .slice da xd.decls.length dc, .slice ra xd.res.length rc, .slice ya xd.syms.length yc⟩, s9, o9, c9, hid (by rw [HEM.out]; simp only []; rw [hml.out, HSS.out]), hid (by rw [HEM.out]; simp only []; rw [hml.out, HSS.out]; exact he9.out), rfl, hid (RD.weak (fun q hq => ⟨Nat.le_trans HBB.out.2 hq.1, hq.2⟩) _ _ (HO9.out.keep (f := fun k => k ≠ w.heap.size + 1 ∧ k ≠ w.heap.size + 1 + 1) (by exact kpBy) (fun q hq _ => ⟨fun e => by omega, fun e => by omega⟩)).rd), hst9⟩, by have := hbb.out; exact blBy⟩
end
/-- The document's decl, at every depth. -/
theorem declR (w0 : World) (b : Nat) : ∀ (L : Nat), L ≤ 8 → ∀ (s : PS) (off cap : Nat) (W : World), StR w0 b off cap s → Below w0.heap.size w0 W → Calls Tryz.prog 22 #[.agg #[.slice (some ⟨b, off, none⟩) s.l.length cap, .int .i64 s.cd, .int .i64 0, .int .i64 s.ln, .int .i64 s.cl], .int .i64 (9 - (L : Int))] W (DclR w0 b (L + 1) (dclM L s) W)
  | 0, _, s, off, cap, W, h, hb => by
    by_cases hi : isM s wEnum = true
    · rw [show dclM 0 s = enmM s by unfold dclM; rw [if_pos hi]]
      exact declR_enum w0 b off cap s W _ hi h hb
    · rw [show dclM 0 s = (zD, badM s 17) by unfold dclM; rw [if_neg hi]]
      exact declR_deep w0 b off cap s W _ (by decide) (by cases hh : isM s wEnum; rfl; exact absurd hh hi) h hb
  | L + 1, hL, s, off, cap, W, h, hb => by
    by_cases hi : isM s wEnum = true
    · rw [show dclM (L + 1) s = enmM s by unfold dclM; rw [if_pos hi]]
      refine (declR_enum w0 b off cap s W _ hi h hb).mono ?_
      rintro e w' ⟨⟨y, s', o, c, h1, h2, h3, h4, h5⟩, h6⟩
      exact ⟨⟨y, s', o, c, h1, h2, h3, hid (RD.upto (by omega) _ h4.out), h5⟩, h6⟩
    · rw [show dclM (L + 1) s = msgM (dclM L) s by unfold dclM; rw [if_neg hi]]
      have e1 : (9 - ((L + 1 : Nat) : Int)) = 8 - (L : Int) := by omega
      rw [e1]
      refine declR_msg w0 b off cap s W L (8 - (L : Int)) (by omega) (by omega) (fun s off cap W h hb => ?_) (by cases hh : isM s wEnum; rfl; exact absurd hh hi) h hb
      have := declR w0 b L (by omega) s off cap W h hb
      rw [show (9 - (L : Int)) = 8 - (L : Int) + 1 by omega] at this
      exact this
theorem Tryz.infoIr : (Tryz.prog.info? 67).map (fun i => (i.zero, i.size, i.bytes)) = some (some zOr, 3, 32) := by kernel_rfl
structure Fil (w0 : World) (b : Nat) (wr : World) (o c : Nat) (s : PS) (x : DV) : Prop where
  st : StR w0 b o c s
  un : Below w0.heap.size w0 wr
  sb : Blk wr (w0.heap.size + 1) 54 #[.slice (some ⟨b, o, none⟩) s.l.length c, .int .i64 s.cd, .int .i64 0, .int .i64 s.ln, .int .i64 s.cl]
  ob : Blk wr (w0.heap.size + 1 + 1) 34 #[x.o, x.dd]
  own : OwnD wr w0.heap.size 9 78 67 74 136 126 (fun k => w0.heap.size + 1 ≤ k ∧ k < w0.heap.size + 3) x
section
variable {w0 : World} {b : Nat} {wr w' : World} {o c o' c' : Nat} {s s' : PS} {x : DV}
theorem Fil.kept (h : Fil w0 b wr o c s x) (g : Below wr.heap.size wr w') : Fil w0 b w' o c s x := ⟨h.st, below_trans h.un g, h.sb.kept g, h.ob.kept g, h.own.kept g⟩
theorem Fil.setS (h : Fil w0 b wr o c s x) (hs : StR w0 b o' c' s') : Fil w0 b (((((wr.setCell ⟨w0.heap.size + 1, 0, none⟩ (.slice (some ⟨b, o', none⟩) s'.l.length c')).setCell ⟨w0.heap.size + 1, 1, none⟩ (.int .i64 s'.cd)).setCell ⟨w0.heap.size + 1, 2, none⟩ (.int .i64 0)).setCell ⟨w0.heap.size + 1, 3, none⟩ (.int .i64 s'.ln)).setCell ⟨w0.heap.size + 1, 4, none⟩ (.int .i64 s'.cl)) o' c' s' x := by
  have K : Keep (· ≠ w0.heap.size + 1) wr (((((wr.setCell ⟨w0.heap.size + 1, 0, none⟩ (.slice (some ⟨b, o', none⟩) s'.l.length c')).setCell ⟨w0.heap.size + 1, 1, none⟩ (.int .i64 s'.cd)).setCell ⟨w0.heap.size + 1, 2, none⟩ (.int .i64 0)).setCell ⟨w0.heap.size + 1, 3, none⟩ (.int .i64 s'.ln)).setCell ⟨w0.heap.size + 1, 4, none⟩ (.int .i64 s'.cl)) :=
    ((((Keep.setCell _ _ _ (by simp)).trans (Keep.setCell _ _ _ (by simp))).trans (Keep.setCell _ _ _ (by simp))).trans (Keep.setCell _ _ _ (by simp))).trans (Keep.setCell _ _ _ (by simp))
  exact ⟨hs, h.un.trans (K.below h.un.size (fun k hk e => by omega)), blkall5 h.sb, h.ob.keep K (by omega), h.own.keep K (fun k _ hk e => hk ⟨by omega, by omega⟩)⟩
theorem Fil.le (h : Fil w0 b wr o c s x) : w0.heap.size ≤ wr.heap.size := h.un.size
theorem Fil.moreI (h : Fil w0 b wr o c s x) {l : List MO} (hl : x.d.oneofs = l) (hn : l.length ≤ 400000) (y : MO) :
    ∃ a c' w', Hid ((Builtin.append_ #[31, 31] 31 #[x.o, .slice (some ⟨wr.heap.size, 0, none⟩) 1 1]).run Tryz.prog (wr.alloc (.cells #[.string (strOfNums y.name), .int .i64 y.at1.1, .int .i64 y.at1.2] 67)) = .ok (.slice a (l.length + 1) c') w') ∧ Hid (Grow wr w' x.o (.slice a (l.length + 1) c')) ∧ Hid (Blk w' (w0.heap.size + 1 + 1) 34 #[x.o, x.dd]) ∧
      Hid (Fil w0 b (w'.setCell ⟨w0.heap.size + 1 + 1, 0, none⟩ (.slice a (l.length + 1) c')) o c s ⟨{ x.d with oneofs := l ++ [y] }, x.f, .slice a (l.length + 1) c', x.dd, x.r, x.s⟩) := by
  subst hl
  obtain ⟨v', w', h1, h2, g⟩ := append_st 67 31 3 32 zOr Tryz.underlying31 Tryz.infoIr rfl (by decide) (by decide) w0.heap.size x.o x.d.oneofs.length (x.d.oneofs.flatMap cO) wr #[.string (strOfNums y.name), .int .i64 y.at1.1, .int .i64 y.at1.2] rfl (fun u hu => by simp at hu; rcases hu with rfl | rfl | rfl <;> rfl) h.own.o h.le hn
  obtain ⟨a, c', rfl⟩ := own_shape h2
  have ho : w'.ownsRow w0.heap.size 67 3 (.slice a (x.d.oneofs.length + 1) c') (x.d.oneofs ++ [y]).length ((x.d.oneofs ++ [y]).flatMap cO) := by rw [List.flatMap_append, List.length_append]; exact h2
  have K : Keep (fun q => x.o.ownBlock ≠ some q) wr w' := Keep.ofGrow g (fun _ hk => hk)
  have hne : ∀ q, w0.heap.size + 1 ≤ q → q < w0.heap.size + 3 → x.o.ownBlock ≠ some q := fun q h1 h2 hk => h.own.me q (.inr (.inl hk)) ⟨h1, h2⟩
  have hb := h.ob.keep K (hne _ (by omega) (by omega))
  have K2 : Keep (· ≠ w0.heap.size + 1 + 1) w' (w'.setCell ⟨w0.heap.size + 1 + 1, 0, none⟩ (.slice a (x.d.oneofs.length + 1) c')) := Keep.setCell _ _ _ (by simp)
  have hf : Keep (· < w0.heap.size) wr w' := Keep.ofGrow g (fun q hq e => by have := (own_type h.own.o e).1; omega)
  exact ⟨a, c', w', hid h1, hid g, hid hb, hid ⟨h.st, h.un.trans ((hf.trans (K2.weak (fun q (hq : q < w0.heap.size) e => by omega))).below h.un.size (fun k hk => hk)), (h.sb.keep K (hne _ (by omega) (by omega))).keep K2 (by omega), (hb.set 0 _).is (by simp), (h.own.addO (by decide) (by decide) (by decide) (by decide) g ho).keep K2 (fun q _ hq e => hq ⟨by omega, by omega⟩)⟩⟩
theorem Fil.moreD (h : Fil w0 b wr o c s x) (hn : x.d.decls.length ≤ 400000) {N : Nat} {y : DV} (hN : w0.heap.size ≤ N) (hm : ∀ k, x.mine k ∨ (w0.heap.size + 1 ≤ k ∧ k < w0.heap.size + 3) → k < N) (hy : RD 9 wr (fun k => N ≤ k ∧ k < wr.heap.size) y) :
    ∃ a c' w', Hid ((Builtin.append_ #[32, 32] 32 #[x.dd, .slice (some ⟨wr.heap.size, 0, none⟩) 1 1]).run Tryz.prog (wr.alloc (.cells #[.bool y.d.enum, .string (strOfNums y.d.name), .int .i64 y.d.at1.1, .int .i64 y.d.at1.2, y.f, y.o, y.dd, y.r, y.s] 74)) = .ok (.slice a (x.d.decls.length + 1) c') w') ∧ Hid (Grow wr w' x.dd (.slice a (x.d.decls.length + 1) c')) ∧ Hid (Blk w' (w0.heap.size + 1 + 1) 34 #[x.o, x.dd]) ∧
      Hid (Fil w0 b (w'.setCell ⟨w0.heap.size + 1 + 1, 1, none⟩ (.slice a (x.d.decls.length + 1) c')) o c s ⟨{ x.d with decls := x.d.decls ++ [y.d] }, x.f, x.o, .slice a (x.d.decls.length + 1) c', x.r, x.s⟩) := by
  obtain ⟨Z, dvs, e, hd, hz, hmz, hys⟩ := h.own.dd
  have el : dvs.length = x.d.decls.length := by rw [← e]; simp
  obtain ⟨⟨a1, c1, e1⟩, ⟨a2, c2, e2⟩, ⟨a3, c3, e3⟩, ⟨a4, c4, e4⟩, ⟨a5, c5, e5⟩⟩ := hy.shape
  obtain ⟨v', w', h1, h2, g⟩ := append_st 74 32 9 160 zDr Tryz.underlying32 Tryz.infoDr rfl (by decide) (by decide) w0.heap.size x.dd dvs.length (dvs.flatMap cD) wr #[.bool y.d.enum, .string (strOfNums y.d.name), .int .i64 y.d.at1.1, .int .i64 y.d.at1.2, y.f, y.o, y.dd, y.r, y.s] rfl (fun u hu => by rw [e1, e2, e3, e4, e5] at hu; simp at hu; rcases hu with rfl | rfl | rfl | rfl | rfl | rfl | rfl | rfl | rfl <;> rfl) hd h.le (by omega)
  rw [el] at h2
  obtain ⟨a, c', rfl⟩ := own_shape h2
  have ho : w'.ownsRow w0.heap.size 74 9 (.slice a (x.d.decls.length + 1) c') (dvs.length + 1) (dvs.flatMap cD ++ cD y) := by rw [el]; exact h2
  have K : Keep (fun q => x.dd.ownBlock ≠ some q) wr w' := Keep.ofGrow g (fun _ hk => hk)
  have hne : ∀ q, w0.heap.size + 1 ≤ q → q < w0.heap.size + 3 → x.dd.ownBlock ≠ some q := fun q h1 h2 hk => h.own.me q (.inr (.inr (.inl hk))) ⟨h1, h2⟩
  have hb := h.ob.keep K (hne _ (by omega) (by omega))
  have K2 : Keep (· ≠ w0.heap.size + 1 + 1) w' (w'.setCell ⟨w0.heap.size + 1 + 1, 1, none⟩ (.slice a (x.d.decls.length + 1) c')) := Keep.setCell _ _ _ (by simp)
  have hf : Keep (· < w0.heap.size) wr w' := Keep.ofGrow g (fun q hq e => by have := (own_type hd e).1; omega)
  exact ⟨a, c', w', hid h1, hid g, hid hb, hid ⟨h.st, h.un.trans ((hf.trans (K2.weak (fun q (hq : q < w0.heap.size) e => by omega))).below h.un.size (fun k hk => hk)), (h.sb.keep K (hne _ (by omega) (by omega))).keep K2 (by omega), (hb.set 1 _).is (by simp),
    (h.own.addD (by decide) (by decide) (by decide) (by decide) (Zy := fun k => N ≤ k ∧ k < wr.heap.size) (fun k hk => ⟨by omega, hk.2⟩) (fun k hk hk2 => by have := hm k hk; omega) hy Z e hd hz hmz hys g ho).keep K2 (fun q _ hq e => hq ⟨by omega, by omega⟩)⟩⟩
theorem Fil.shape (h : Fil w0 b wr o c s x) : ∃ a1 c1 a2 c2, x.o = .slice a1 x.d.oneofs.length c1 ∧ x.dd = .slice a2 x.d.decls.length c2 := by
  obtain ⟨a1, c1, e1⟩ := own_shape h.own.o
  obtain ⟨a2, c2, e2⟩ := h.own.ddS
  exact ⟨a1, c1, a2, c2, e1, e2⟩
/-- Where it ends. -/
theorem Fil.fin (h : Fil w0 b wr o c s x) (w : World) (hw : w.heap.size ≤ w0.heap.size) (K : Keep (fun k => w0.heap.size ≤ k) wr w') {t : MT} {v1 v2 : Value} (hx : x.d = toD t) (e1 : x.o = v1) (e2 : x.dd = v2) : FileR w w' t v1 v2 :=
  ⟨x, hx, e1, e2, RD.weak (fun k hk => ⟨Nat.le_trans hw hk.1, hk.2⟩) _ _ (h.own.keep K (fun k hk _ => hk)).rd⟩
end
end Go.Proofs.YtidimdbnnnpplaaGreatDoor
