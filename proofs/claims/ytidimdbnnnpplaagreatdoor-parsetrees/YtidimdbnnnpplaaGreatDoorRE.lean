/-
  The document's form of an enum.
-/
import Derived.Test.YtidimdbnnnpplaaGreatDoorCRT
import Derived.Test.YtidimdbnnnpplaaGreatDoorCPE
import Derived.Test.YtidimdbnnnpplaaGreatDoorCPO
import Derived.Deep.RegionHeld3
import Derived.Deep.CutRange
namespace Go.Proofs.YtidimdbnnnpplaaGreatDoor
open Go.RowKit
set_option maxRecDepth 1000000
set_option linter.unusedVariables false
set_option linter.unusedSimpArgs false
set_option maxHeartbeats 8000000
theorem Tryz.infoSr : (Tryz.prog.info? 126).map (fun i => (i.zero, i.size, i.bytes)) = some (some zS, 6, 56) := by kernel_rfl
theorem appendSr (base : Nat) (v : Value) (l : List MS) (y : MS) (w : World) (h : w.ownsRow base 126 6 v l.length (l.flatMap cS)) (hb : base ≤ w.heap.size) (hn : l.length ≤ 400000) :
    ∃ a c w', Hid ((Builtin.append_ #[72, 72] 72 #[v, .slice (some ⟨w.heap.size, 0, none⟩) 1 1]).run Tryz.prog (w.alloc (.cells #[.string (strOfNums y.name), .int .u64 y.num, .int .i64 y.at1.1, .int .i64 y.at1.2, .int .i64 y.nat1.1, .int .i64 y.nat1.2] 126)) = .ok (.slice a (l.length + 1) c) w') ∧
      Hid (w'.ownsRow base 126 6 (.slice a (l.length + 1) c) (l ++ [y]).length ((l ++ [y]).flatMap cS)) ∧ Hid (Grow w w' v (.slice a (l.length + 1) c)) := by
  obtain ⟨v', w', h1, h2, h3⟩ := append_st 126 72 6 56 zS Tryz.underlying72 Tryz.infoSr rfl (by decide) (by decide) base v l.length (l.flatMap cS) w #[.string (strOfNums y.name), .int .u64 y.num, .int .i64 y.at1.1, .int .i64 y.at1.2, .int .i64 y.nat1.1, .int .i64 y.nat1.2] rfl (fun u hu => by simp at hu; rcases hu with rfl | rfl | rfl | rfl | rfl | rfl <;> rfl) h hb hn
  obtain ⟨a, c, rfl⟩ := own_shape h2
  exact ⟨a, c, w', hid h1, hid (by rw [List.flatMap_append, List.length_append]; exact h2), hid h3⟩
section
variable (w0 : World) (b off cap : Nat) (s : PS) (w : World)
theorem declR_enum (depth : Int) (hi : isM s wEnum = true) (h : StR w0 b off cap s) (hb : Below w0.heap.size w0 w) : Calls Tryz.prog 22 #[.agg #[.slice (some ⟨b, off, none⟩) s.l.length cap, .int .i64 s.cd, .int .i64 0, .int .i64 s.ln, .int .i64 s.cl], .int .i64 depth] w fun e w' => (∃ y s' o c, Hid (y.d = (enmM s).1) ∧ Hid (s' = (enmM s).2) ∧ e = .returned (.tuple #[.agg #[.bool y.d.enum, .string (strOfNums y.d.name), .int .i64 y.d.at1.1, .int .i64 y.d.at1.2, y.f, y.o, y.dd, y.r, y.s], .agg #[.slice (some ⟨b, o, none⟩) s'.l.length c, .int .i64 s'.cd, .int .i64 0, .int .i64 s'.ln, .int .i64 s'.cl]]) ∧ Hid (RD 1 w' (fun k => w.heap.size ≤ k ∧ k < w'.heap.size) y) ∧ Hid (StR w0 b o c s')) ∧ Below w.heap.size w w' := by
  have HB := hid hb
  have HW := hid h
  clear h hb
  have hb0 : Hid (Below w.heap.size w w) := hid (Below.refl _ _)
  go_enter Tryz.func22, Tryz.ntmps22
  go_wp2_with fail
  refine (isR w0 b off cap s _ ⟨#[101, 110, 117, 109]⟩ wEnum rfl (by decide) HW.out (bl_then HB.out (by have := hb0.out; exact blBy))).mono ?_
  rintro e w1 ⟨rfl, hb1⟩
  have Bs : Blk w1 (w.heap.size) 54 #[.slice (some ⟨b, off, none⟩) s.l.length cap, .int .i64 s.cd, .int .i64 0, .int .i64 s.ln, .int .i64 s.cl] := Blk.kept ((((Blk.newAt (by simp)).kept (below_alloc _)).kept (below_alloc _)).is (by first | rfl | simp)) hb1
  have Br4 : Blk w1 (w.heap.size + 1) 74 #[.bool false, .string ⟨#[]⟩, .int .i64 0, .int .i64 0, .slice none 0 0, .slice none 0 0, .slice none 0 0, .slice none 0 0, .slice none 0 0] := Blk.kept (((Blk.newAt (by simp)).kept (below_alloc _)).is (by first | rfl | simp)) hb1
  have Br5 : Blk w1 (w.heap.size + 1 + 1) 54 #[.slice none 0 0, .int .i64 0, .int .i64 0, .int .i64 0, .int .i64 0] := Blk.kept ((Blk.newAt (by simp)).is (by first | rfl | simp)) hb1
  have hs1 := hb1.size
  try simp at hs1
  have xs := Bs.cellF
  have ys := Bs.frz
  have zs : w.heap.size < w1.heap.size := by omega
  have xr4 := Br4.cellF
  have yr4 := Br4.frz
  have zr4 : w.heap.size + 1 < w1.heap.size := by omega
  have xr5 := Br5.cellF
  have yr5 := Br5.frz
  have zr5 : w.heap.size + 1 + 1 < w1.heap.size := by omega
  replace hb1 : Hid (Below w.heap.size w w1) := hid (bl_then (by have := hb0.out; exact blBy) hb1)
  rw [hi]
  go_wp2_with fail
  refine (eatR w0 b off cap s _ ⟨#[101, 110, 117, 109]⟩ wEnum rfl (by decide) HW.out (bl_then HB.out (by have := hb1.out; exact blBy))).mono ?_
  rintro e w2 ⟨⟨s1, o1, c1, he1, rfl, hst1⟩, hb2⟩
  replace Bs : Blk w2 (w.heap.size) 54 #[.slice (some ⟨b, off, none⟩) s.l.length cap, .int .i64 s.cd, .int .i64 0, .int .i64 s.ln, .int .i64 s.cl] := Blk.kept (Bs.is (by first | rfl | simp)) hb2
  replace Br4 : Blk w2 (w.heap.size + 1) 74 #[.bool false, .string ⟨#[]⟩, .int .i64 0, .int .i64 0, .slice none 0 0, .slice none 0 0, .slice none 0 0, .slice none 0 0, .slice none 0 0] := Blk.kept (Br4.is (by first | rfl | simp)) hb2
  replace Br5 : Blk w2 (w.heap.size + 1 + 1) 54 #[.slice none 0 0, .int .i64 0, .int .i64 0, .int .i64 0, .int .i64 0] := Blk.kept (Br5.is (by first | rfl | simp)) hb2
  clear xs ys xr4 yr4 xr5 yr5
  have hs2 := hb2.size
  try simp at hs2
  have xs := Bs.cellF
  have ys := Bs.frz
  replace zs : w.heap.size < w2.heap.size := by omega
  have xr4 := Br4.cellF
  have yr4 := Br4.frz
  replace zr4 : w.heap.size + 1 < w2.heap.size := by omega
  have xr5 := Br5.cellF
  have yr5 := Br5.frz
  replace zr5 : w.heap.size + 1 + 1 < w2.heap.size := by omega
  replace hb2 : Hid (Below w.heap.size w w2) := hid (bl_then (by have := hb1.out; exact blBy) hb2)
  replace hst1 := hid hst1
  go_wp2_with fail
  refine (takeR w0 b o1 c1 s1 _ 1 (by decide) (by decide) hst1.out (bl_then HB.out (by have := hb2.out; exact blBy))).mono ?_
  rintro e w3 ⟨⟨m, s2, sa, sc, o2, c2, hm, he2, rfl, hr2, hk2, hst2⟩, hb3⟩
  replace Bs : Blk w3 (w.heap.size) 54 #[.slice (some ⟨b, o1, none⟩) s1.l.length c1, .int .i64 s1.cd, .int .i64 0, .int .i64 s1.ln, .int .i64 s1.cl] := Blk.kept ((blkall5 Bs).is (by first | rfl | simp)) hb3
  replace Br4 : Blk w3 (w.heap.size + 1) 74 #[.bool false, .string ⟨#[]⟩, .int .i64 0, .int .i64 0, .slice none 0 0, .slice none 0 0, .slice none 0 0, .slice none 0 0, .slice none 0 0] := Blk.kept ((blkoth5 Br4 (show w.heap.size + 1 ≠ w.heap.size by omega)).is (by first | rfl | simp)) hb3
  replace Br5 : Blk w3 (w.heap.size + 1 + 1) 54 #[.slice none 0 0, .int .i64 0, .int .i64 0, .int .i64 0, .int .i64 0] := Blk.kept ((blkoth5 Br5 (show w.heap.size + 1 + 1 ≠ w.heap.size by omega)).is (by first | rfl | simp)) hb3
  clear xs ys xr4 yr4 xr5 yr5
  have hs3 := hb3.size
  try simp at hs3
  have xs := Bs.cellF
  have ys := Bs.frz
  replace zs : w.heap.size < w3.heap.size := by omega
  have xr4 := Br4.cellF
  have yr4 := Br4.frz
  replace zr4 : w.heap.size + 1 < w3.heap.size := by omega
  have xr5 := Br5.cellF
  have yr5 := Br5.frz
  replace zr5 : w.heap.size + 1 + 1 < w3.heap.size := by omega
  replace hb3 : Hid (Below w.heap.size w w3) := hid (bl_then (by have := hb2.out; exact blBy) hb3)
  have HEA : Hid (enA s = (m, s2)) := hid (by unfold enA; rw [← he1.out, hm.out, he2.out])
  go_upto_region 4 with fail
  go_cut [8] from 24 to 28 (fun s8 wc => ∃ Q, s8 = .pointer (some ⟨Q, 0, none⟩) ∧ Hid (Below w.heap.size w wc) ∧ Hid (w3.heap.size + 1 < Q ∧ Q < wc.heap.size) ∧ Hid (Blk wc Q 74 #[.bool true, .string (strOfNums m.s), .int .i64 m.line, .int .i64 m.col, .slice none 0 0, .slice none 0 0, .slice none 0 0, .slice none 0 0, .slice none 0 0]) ∧ Hid (Blk wc (w.heap.size) 54 #[.slice (some ⟨b, o1, none⟩) s1.l.length c1, .int .i64 s1.cd, .int .i64 0, .int .i64 s1.ln, .int .i64 s1.cl]) ∧ Hid (Blk wc (w.heap.size + 1) 74 #[.bool false, .string ⟨#[]⟩, .int .i64 0, .int .i64 0, .slice none 0 0, .slice none 0 0, .slice none 0 0, .slice none 0 0, .slice none 0 0]) ∧ Hid (Blk wc (w.heap.size + 1 + 1) 54 #[.slice none 0 0, .int .i64 0, .int .i64 0, .int .i64 0, .int .i64 0]) ∧ Hid (Blk wc (w3.heap.size + 1) 54 #[.slice (some ⟨b, o2, none⟩) s2.l.length c2, .int .i64 s2.cd, .int .i64 0, .int .i64 s2.ln, .int .i64 s2.cl]))
  case first =>
    have Es : Blk ((w3.alloc (.cells #[.int .i64 m.kind, .string (strOfNums m.s), .int .u64 m.n, .slice sa m.b.length sc, .int .i64 m.line, .int .i64 m.col] 58)).alloc (.cells #[.slice (some ⟨b, o2, none⟩) s2.l.length c2, .int .i64 s2.cd, .int .i64 0, .int .i64 s2.ln, .int .i64 s2.cl] 54)) (w.heap.size) 54 #[.slice (some ⟨b, o1, none⟩) s1.l.length c1, .int .i64 s1.cd, .int .i64 0, .int .i64 s1.ln, .int .i64 s1.cl] := (((Bs.kept (below_alloc _)).kept (below_alloc _)).is (by first | rfl | simp))
    have Er4 : Blk ((w3.alloc (.cells #[.int .i64 m.kind, .string (strOfNums m.s), .int .u64 m.n, .slice sa m.b.length sc, .int .i64 m.line, .int .i64 m.col] 58)).alloc (.cells #[.slice (some ⟨b, o2, none⟩) s2.l.length c2, .int .i64 s2.cd, .int .i64 0, .int .i64 s2.ln, .int .i64 s2.cl] 54)) (w.heap.size + 1) 74 #[.bool false, .string ⟨#[]⟩, .int .i64 0, .int .i64 0, .slice none 0 0, .slice none 0 0, .slice none 0 0, .slice none 0 0, .slice none 0 0] := (((Br4.kept (below_alloc _)).kept (below_alloc _)).is (by first | rfl | simp))
    have Er5 : Blk ((w3.alloc (.cells #[.int .i64 m.kind, .string (strOfNums m.s), .int .u64 m.n, .slice sa m.b.length sc, .int .i64 m.line, .int .i64 m.col] 58)).alloc (.cells #[.slice (some ⟨b, o2, none⟩) s2.l.length c2, .int .i64 s2.cd, .int .i64 0, .int .i64 s2.ln, .int .i64 s2.cl] 54)) (w.heap.size + 1 + 1) 54 #[.slice none 0 0, .int .i64 0, .int .i64 0, .int .i64 0, .int .i64 0] := (((Br5.kept (below_alloc _)).kept (below_alloc _)).is (by first | rfl | simp))
    have Em : Blk ((w3.alloc (.cells #[.int .i64 m.kind, .string (strOfNums m.s), .int .u64 m.n, .slice sa m.b.length sc, .int .i64 m.line, .int .i64 m.col] 58)).alloc (.cells #[.slice (some ⟨b, o2, none⟩) s2.l.length c2, .int .i64 s2.cd, .int .i64 0, .int .i64 s2.ln, .int .i64 s2.cl] 54)) (w3.heap.size) 58 #[.int .i64 m.kind, .string (strOfNums m.s), .int .u64 m.n, .slice sa m.b.length sc, .int .i64 m.line, .int .i64 m.col] := (((Blk.newAt (by simp)).kept (below_alloc _)).is (by first | rfl | simp))
    have Ex : Blk ((w3.alloc (.cells #[.int .i64 m.kind, .string (strOfNums m.s), .int .u64 m.n, .slice sa m.b.length sc, .int .i64 m.line, .int .i64 m.col] 58)).alloc (.cells #[.slice (some ⟨b, o2, none⟩) s2.l.length c2, .int .i64 s2.cd, .int .i64 0, .int .i64 s2.ln, .int .i64 s2.cl] 54)) (w3.heap.size + 1) 54 #[.slice (some ⟨b, o2, none⟩) s2.l.length c2, .int .i64 s2.cd, .int .i64 0, .int .i64 s2.ln, .int .i64 s2.cl] := ((Blk.newAt (by simp)).is (by first | rfl | simp))
    have hbm : Hid (Below w.heap.size w ((w3.alloc (.cells #[.int .i64 m.kind, .string (strOfNums m.s), .int .u64 m.n, .slice sa m.b.length sc, .int .i64 m.line, .int .i64 m.col] 58)).alloc (.cells #[.slice (some ⟨b, o2, none⟩) s2.l.length c2, .int .i64 s2.cd, .int .i64 0, .int .i64 s2.ln, .int .i64 s2.cl] 54))) := hid (by have := hb3.out; exact blBy)
    have zwm : w3.heap.size + 1 < ((w3.alloc (.cells #[.int .i64 m.kind, .string (strOfNums m.s), .int .u64 m.n, .slice sa m.b.length sc, .int .i64 m.line, .int .i64 m.col] 58)).alloc (.cells #[.slice (some ⟨b, o2, none⟩) s2.l.length c2, .int .i64 s2.cd, .int .i64 0, .int .i64 s2.ln, .int .i64 s2.cl] 54)).heap.size := by simp
    clear Bs xs ys zs Br4 xr4 yr4 zr4 Br5 xr5 yr5 zr5
    generalize ((w3.alloc (.cells #[.int .i64 m.kind, .string (strOfNums m.s), .int .u64 m.n, .slice sa m.b.length sc, .int .i64 m.line, .int .i64 m.col] 58)).alloc (.cells #[.slice (some ⟨b, o2, none⟩) s2.l.length c2, .int .i64 s2.cd, .int .i64 0, .int .i64 s2.ln, .int .i64 s2.cl] 54)) = wm at *
    have Bs := Es
    clear Es
    have Br4 := Er4
    clear Er4
    have Br5 := Er5
    clear Er5
    have Bm := Em
    clear Em
    have Bx := Ex
    clear Ex
    have xm := Bm.cellF
    go_region_held3 (fun W => W.cell? ⟨w3.heap.size, 0, none⟩ = some (.int .i64 m.kind) ∧ W.cell? ⟨w3.heap.size, 1, none⟩ = some (.string (strOfNums m.s)) ∧ W.cell? ⟨w3.heap.size, 2, none⟩ = some (.int .u64 m.n) ∧ W.cell? ⟨w3.heap.size, 3, none⟩ = some (.slice sa m.b.length sc) ∧ W.cell? ⟨w3.heap.size, 4, none⟩ = some (.int .i64 m.line) ∧ W.cell? ⟨w3.heap.size, 5, none⟩ = some (.int .i64 m.col)) ((refine blkc6 (t := 58) ?_; (with_reducible repeat (first | exact Vmu1.out | exact Bm | refine Blk.oth ?_ | refine Blk.kept ?_ (below_drew1 _) | refine Blk.kept ?_ (below_alloc _))); done)) (first | (go_at_call 20; refine (atR _ m sa sc).mono ?_; rintro e u1 ⟨rfl, hbu⟩; have Vsu1 : Hid (Blk u1 (w.heap.size) 54 #[.slice (some ⟨b, o1, none⟩) s1.l.length c1, .int .i64 s1.cd, .int .i64 0, .int .i64 s1.ln, .int .i64 s1.cl]) := hid (Blk.kept (by (with_reducible repeat (first | exact Bs | refine Blk.oth ?_ | refine Blk.kept ?_ (below_drew1 _) | refine Blk.kept ?_ (below_alloc _))); done) hbu); have Vr4u1 : Hid (Blk u1 (w.heap.size + 1) 74 #[.bool false, .string ⟨#[]⟩, .int .i64 0, .int .i64 0, .slice none 0 0, .slice none 0 0, .slice none 0 0, .slice none 0 0, .slice none 0 0]) := hid (Blk.kept (by (with_reducible repeat (first | exact Br4 | refine Blk.oth ?_ | refine Blk.kept ?_ (below_drew1 _) | refine Blk.kept ?_ (below_alloc _))); done) hbu); have Vr5u1 : Hid (Blk u1 (w.heap.size + 1 + 1) 54 #[.slice none 0 0, .int .i64 0, .int .i64 0, .int .i64 0, .int .i64 0]) := hid (Blk.kept (by (with_reducible repeat (first | exact Br5 | refine Blk.oth ?_ | refine Blk.kept ?_ (below_drew1 _) | refine Blk.kept ?_ (below_alloc _))); done) hbu); have Vmu1 : Hid (Blk u1 (w3.heap.size) 58 #[.int .i64 m.kind, .string (strOfNums m.s), .int .u64 m.n, .slice sa m.b.length sc, .int .i64 m.line, .int .i64 m.col]) := hid (Blk.kept (by (with_reducible repeat (first | exact Bm | refine Blk.oth ?_ | refine Blk.kept ?_ (below_drew1 _) | refine Blk.kept ?_ (below_alloc _))); done) hbu); have Vxu1 : Hid (Blk u1 (w3.heap.size + 1) 54 #[.slice (some ⟨b, o2, none⟩) s2.l.length c2, .int .i64 s2.cd, .int .i64 0, .int .i64 s2.ln, .int .i64 s2.cl]) := hid (Blk.kept (by (with_reducible repeat (first | exact Bx | refine Blk.oth ?_ | refine Blk.kept ?_ (below_drew1 _) | refine Blk.kept ?_ (below_alloc _))); done) hbu); (try have X1 : Hid (Blk u1 wm.heap.size 74 #[.bool false, .string ⟨#[]⟩, .int .i64 0, .int .i64 0, .slice none 0 0, .slice none 0 0, .slice none 0 0, .slice none 0 0, .slice none 0 0]) := hid (Blk.kept (by first | with_reducible exact (Blk.newAt (w := wm) rfl).kept (below_drew1 _) | with_reducible exact Blk.newAt (w := wm.drew) rfl) hbu)); (try have xx1 := X1.out.cellF); (try have xy1 := X1.out.frz); have hsu1 := hbu.size; (try simp at hsu1); have hbb1 : Hid (Below w.heap.size w u1) := hid (bl_then (by have := hbm.out; exact blBy) hbu); clear hbu))
    all_goals (go_wp2_with fail; go_meet; first | (have hq := X1; exact ⟨wm.heap.size, rfl, hid (by have := hbb1.out; exact blBy), hid ⟨by omega, by first | (simp; done) | (simp; omega) | omega⟩, hid (blkall9 X1.out), hid (by (with_reducible repeat (first | exact Vsu1.out | refine blkoth9 ?_ (by omega) | refine Blk.oth ?_ | refine Blk.kept ?_ (below_drew1 _) | refine Blk.kept ?_ (below_alloc _))); done), hid (by (with_reducible repeat (first | exact Vr4u1.out | refine blkoth9 ?_ (by omega) | refine Blk.oth ?_ | refine Blk.kept ?_ (below_drew1 _) | refine Blk.kept ?_ (below_alloc _))); done), hid (by (with_reducible repeat (first | exact Vr5u1.out | refine blkoth9 ?_ (by omega) | refine Blk.oth ?_ | refine Blk.kept ?_ (below_drew1 _) | refine Blk.kept ?_ (below_alloc _))); done), hid (by (with_reducible repeat (first | exact Vxu1.out | refine blkoth9 ?_ (by omega) | refine Blk.oth ?_ | refine Blk.kept ?_ (below_drew1 _) | refine Blk.kept ?_ (below_alloc _))); done)⟩) | (exact ⟨u1.heap.size, rfl, hid (by have := hbb1.out; exact blBy), hid ⟨by omega, by first | (simp; done) | (simp; omega) | omega⟩, hid (Blk.newAt rfl), hid (by (with_reducible repeat (first | exact Vsu1.out | refine blkoth9 ?_ (by omega) | refine Blk.oth ?_ | refine Blk.kept ?_ (below_drew1 _) | refine Blk.kept ?_ (below_alloc _))); done), hid (by (with_reducible repeat (first | exact Vr4u1.out | refine blkoth9 ?_ (by omega) | refine Blk.oth ?_ | refine Blk.kept ?_ (below_drew1 _) | refine Blk.kept ?_ (below_alloc _))); done), hid (by (with_reducible repeat (first | exact Vr5u1.out | refine blkoth9 ?_ (by omega) | refine Blk.oth ?_ | refine Blk.kept ?_ (below_drew1 _) | refine Blk.kept ?_ (below_alloc _))); done), hid (by (with_reducible repeat (first | exact Vxu1.out | refine blkoth9 ?_ (by omega) | refine Blk.oth ?_ | refine Blk.kept ?_ (below_drew1 _) | refine Blk.kept ?_ (below_alloc _))); done)⟩))
  case rest =>
    obtain ⟨Q, rfl, hb0, hQ, BQ, BS, B4, B5, BX⟩ := hcut
    have hQ1 := hQ.out.1
    have hQ2 := hQ.out.2
    clear Bs xs ys zs Br4 xr4 yr4 zr4 Br5 xr5 yr5 zr5
    have Bs := BS.out
    have Br4 := B4.out
    have Br5 := B5.out
    have Bx := BX.out
    have Bq := BQ.out
    have xs := Bs.cellF
    have ys := Bs.frz
    have zs : w.heap.size < wc.heap.size := by omega
    have xr4 := Br4.cellF
    have yr4 := Br4.frz
    have zr4 : w.heap.size + 1 < wc.heap.size := by omega
    have xr5 := Br5.cellF
    have yr5 := Br5.frz
    have zr5 : w.heap.size + 1 + 1 < wc.heap.size := by omega
    have xx := Bx.cellF
    have yx := Bx.frz
    have zx : w3.heap.size + 1 < wc.heap.size := by omega
    have xq := Bq.cellF
    have yq := Bq.frz
    have zq : Q < wc.heap.size := by omega
    clear BQ BS B4 B5 BX hQ
    go_wp2_with fail
    refine (eatR w0 b o2 c2 s2 _ ⟨#[123]⟩ [123] rfl (by decide) hst2.out (bl_then HB.out (by have := hb0.out; exact blBy))).mono ?_
    rintro e v1 ⟨⟨s3, o3, c3, he3, rfl, hst3⟩, hb1⟩
    replace Bs : Blk v1 (w.heap.size) 54 #[.slice (some ⟨b, o1, none⟩) s1.l.length c1, .int .i64 s1.cd, .int .i64 0, .int .i64 s1.ln, .int .i64 s1.cl] := Blk.kept (Bs.is (by first | rfl | simp)) hb1
    replace Br4 : Blk v1 (w.heap.size + 1) 74 #[.bool false, .string ⟨#[]⟩, .int .i64 0, .int .i64 0, .slice none 0 0, .slice none 0 0, .slice none 0 0, .slice none 0 0, .slice none 0 0] := Blk.kept (Br4.is (by first | rfl | simp)) hb1
    replace Br5 : Blk v1 (w.heap.size + 1 + 1) 54 #[.slice none 0 0, .int .i64 0, .int .i64 0, .int .i64 0, .int .i64 0] := Blk.kept (Br5.is (by first | rfl | simp)) hb1
    replace Bq : Blk v1 (Q) 74 #[.bool true, .string (strOfNums m.s), .int .i64 m.line, .int .i64 m.col, .slice none 0 0, .slice none 0 0, .slice none 0 0, .slice none 0 0, .slice none 0 0] := Blk.kept (Bq.is (by first | rfl | simp)) hb1
    clear xs ys xr4 yr4 xr5 yr5 xq yq
    have hs1 := hb1.size
    try simp at hs1
    have xs := Bs.cellF
    have ys := Bs.frz
    replace zs : w.heap.size < v1.heap.size := by omega
    have xr4 := Br4.cellF
    have yr4 := Br4.frz
    replace zr4 : w.heap.size + 1 < v1.heap.size := by omega
    have xr5 := Br5.cellF
    have yr5 := Br5.frz
    replace zr5 : w.heap.size + 1 + 1 < v1.heap.size := by omega
    have xq := Bq.cellF
    have yq := Bq.frz
    replace zq : Q < v1.heap.size := by omega
    replace hb1 : Hid (Below w.heap.size w v1) := hid (bl_then (by have := hb0.out; exact blBy) hb1)
    replace hst3 := hid hst3
    have HEM : Hid (enmM s = (⟨true, m.s, atM m, [], [], [], [], (symL ([], s3)).1⟩, eatM (symL ([], s3)).2 [125])) := hid (by unfold enmM; rw [HEA.out]; simp only []; rw [← he3.out])
    go_wp2
    go_loopw [] (fun wr => ∃ l t o c u, Hid (symL ([], s3) = symL (l, t)) ∧ Hid (StR w0 b o c t) ∧ Hid (Below w.heap.size w wr) ∧ Hid (Q < wr.heap.size) ∧ Hid (Blk wr (w.heap.size) 54 #[.slice (some ⟨b, o, none⟩) t.l.length c, .int .i64 t.cd, .int .i64 0, .int .i64 t.ln, .int .i64 t.cl]) ∧ Hid (Blk wr Q 74 #[.bool true, .string (strOfNums m.s), .int .i64 m.line, .int .i64 m.col, .slice none 0 0, .slice none 0 0, .slice none 0 0, .slice none 0 0, u]) ∧ Hid (Blk wr (w.heap.size + 1) 74 #[.bool false, .string ⟨#[]⟩, .int .i64 0, .int .i64 0, .slice none 0 0, .slice none 0 0, .slice none 0 0, .slice none 0 0, .slice none 0 0]) ∧ Hid (Blk wr (w.heap.size + 1 + 1) 54 #[.slice none 0 0, .int .i64 0, .int .i64 0, .int .i64 0, .int .i64 0]) ∧ Hid (wr.ownsRow w.heap.size 126 6 u l.length (l.flatMap cS)) ∧ Hid (l.length + muM t ≤ 70001)) (fun wr => muW wr w.heap.size)
    case atStart => exact ⟨[], s3, o3, c3, .slice none 0 0, hid rfl, hst3, hid (by have := hb1.out; exact blBy), hid (by simp; omega), hid ((blkall5 Bs).is (by first | rfl | simp)), hid ((blkoth5 Bq (show Q ≠ w.heap.size by omega)).is (by first | rfl | simp)), hid ((blkoth5 Br4 (show w.heap.size + 1 ≠ w.heap.size by omega)).is (by first | rfl | simp)), hid ((blkoth5 Br5 (show w.heap.size + 1 + 1 ≠ w.heap.size by omega)).is (by first | rfl | simp)), hid (World.ownsRow_nil _ _ _ _), hid (by unfold muM; split; (have := hst3.out.ws.len; simp; omega); simp)⟩
    case round =>
      obtain ⟨l, t, o, c, u, hsy, hst, hb0, hsz, BS, BQ, B4, B5, HOW, htot⟩ := hrel
      obtain ⟨va, vc, rfl⟩ : ∃ va vc, u = .slice va l.length vc := own_shape HOW.out
      clear Bs xs ys zs Br4 xr4 yr4 zr4 Br5 xr5 yr5 zr5 Bq xq yq zq
      have hsz := hsz.out
      have Bs := BS.out
      have Bq := BQ.out
      have Br4 := B4.out
      have Br5 := B5.out
      have xs := Bs.cellF
      have ys := Bs.frz
      have zs := Bs.lt
      have xq := Bq.cellF
      have yq := Bq.frz
      have zq := Bq.lt
      have xr4 := Br4.cellF
      have yr4 := Br4.frz
      have zr4 := Br4.lt
      have xr5 := Br5.cellF
      have yr5 := Br5.frz
      have zr5 := Br5.lt
      have hm0 := muW_is Bs
      by_cases hcd : t.cd = 0
      · cases hj : isM t [125] with
        | true =>
          have HSS := hid (symL_stop (l := l) hj)
          have k3 : (t.cd == 0) = true := by rw [hcd]; rfl
          replace hcd := hid hcd
          go_wp2_with fail
          refine (isR w0 b o c t _ ⟨#[125]⟩ [125] rfl (by decide) hst.out (bl_then HB.out (by have := hb0.out; exact blBy))).mono ?_
          rintro e v1 ⟨rfl, hb1⟩
          have HV := hid hb1
          replace Bs : Blk v1 (w.heap.size) 54 #[.slice (some ⟨b, o, none⟩) t.l.length c, .int .i64 t.cd, .int .i64 0, .int .i64 t.ln, .int .i64 t.cl] := Blk.kept (Bs.is (by first | rfl | simp)) hb1
          replace Bq : Blk v1 (Q) 74 #[.bool true, .string (strOfNums m.s), .int .i64 m.line, .int .i64 m.col, .slice none 0 0, .slice none 0 0, .slice none 0 0, .slice none 0 0, .slice va l.length vc] := Blk.kept (Bq.is (by first | rfl | simp)) hb1
          replace Br4 : Blk v1 (w.heap.size + 1) 74 #[.bool false, .string ⟨#[]⟩, .int .i64 0, .int .i64 0, .slice none 0 0, .slice none 0 0, .slice none 0 0, .slice none 0 0, .slice none 0 0] := Blk.kept (Br4.is (by first | rfl | simp)) hb1
          replace Br5 : Blk v1 (w.heap.size + 1 + 1) 54 #[.slice none 0 0, .int .i64 0, .int .i64 0, .int .i64 0, .int .i64 0] := Blk.kept (Br5.is (by first | rfl | simp)) hb1
          clear xs ys xq yq xr4 yr4 xr5 yr5
          have hs1 := hb1.size
          try simp at hs1
          have xs := Bs.cellF
          have ys := Bs.frz
          replace zs : w.heap.size < v1.heap.size := by omega
          have xq := Bq.cellF
          have yq := Bq.frz
          replace zq : Q < v1.heap.size := by omega
          have xr4 := Br4.cellF
          have yr4 := Br4.frz
          replace zr4 : w.heap.size + 1 < v1.heap.size := by omega
          have xr5 := Br5.cellF
          have yr5 := Br5.frz
          replace zr5 : w.heap.size + 1 + 1 < v1.heap.size := by omega
          replace hb1 : Hid (Below w.heap.size w v1) := hid (bl_then (by have := hb0.out; exact blBy) hb1)
          rw [hj]
          have HOk := hid (own_kept HOW.out HV.out)
          go_wp2_with fail
          go_region_held3 (fun W => (W.cell? ⟨Q, 0, none⟩ = some (.bool true) ∧ W.cell? ⟨Q, 1, none⟩ = some (.string (strOfNums m.s)) ∧ W.cell? ⟨Q, 2, none⟩ = some (.int .i64 m.line) ∧ W.cell? ⟨Q, 3, none⟩ = some (.int .i64 m.col) ∧ W.cell? ⟨Q, 4, none⟩ = some (.slice none 0 0) ∧ W.cell? ⟨Q, 5, none⟩ = some (.slice none 0 0) ∧ W.cell? ⟨Q, 6, none⟩ = some (.slice none 0 0) ∧ W.cell? ⟨Q, 7, none⟩ = some (.slice none 0 0) ∧ W.cell? ⟨Q, 8, none⟩ = some (.slice va l.length vc)) ∧ (W.cell? ⟨w.heap.size, 0, none⟩ = some (.slice (some ⟨b, o, none⟩) t.l.length c) ∧ W.cell? ⟨w.heap.size, 1, none⟩ = some (.int .i64 t.cd) ∧ W.cell? ⟨w.heap.size, 2, none⟩ = some (.int .i64 0) ∧ W.cell? ⟨w.heap.size, 3, none⟩ = some (.int .i64 t.ln) ∧ W.cell? ⟨w.heap.size, 4, none⟩ = some (.int .i64 t.cl))) ((refine ⟨blkc9 (t := 74) ?_, blkc5 (t := 54) ?_⟩ <;> (with_reducible repeat (first | exact Vqu9.out | exact Vsu9.out | exact Bq | exact Bs | refine Blk.oth ?_ | refine Blk.kept ?_ (below_drew1 _) | refine Blk.kept ?_ (below_alloc _))); done)) (first | (go_at_call 18; refine (eatR w0 b o c t _ ⟨#[125]⟩ [125] rfl (by decide) hst.out (bl_then HB.out (by have := hb1.out; exact blBy))).mono ?_; rintro e u9 ⟨⟨s9, o9, c9, he9, rfl, hst9⟩, hbu⟩; have Vqu9 : Hid (Blk u9 (Q) 74 #[.bool true, .string (strOfNums m.s), .int .i64 m.line, .int .i64 m.col, .slice none 0 0, .slice none 0 0, .slice none 0 0, .slice none 0 0, .slice va l.length vc]) := hid (Blk.kept (by (with_reducible repeat (first | exact Bq | refine Blk.oth ?_ | refine Blk.kept ?_ (below_drew1 _) | refine Blk.kept ?_ (below_alloc _))); done) hbu); have Vsu9 : Hid (Blk u9 (w.heap.size) 54 #[.slice (some ⟨b, o, none⟩) t.l.length c, .int .i64 t.cd, .int .i64 0, .int .i64 t.ln, .int .i64 t.cl]) := hid (Blk.kept (by (with_reducible repeat (first | exact Bs | refine Blk.oth ?_ | refine Blk.kept ?_ (below_drew1 _) | refine Blk.kept ?_ (below_alloc _))); done) hbu); have Vr4u9 : Hid (Blk u9 (w.heap.size + 1) 74 #[.bool false, .string ⟨#[]⟩, .int .i64 0, .int .i64 0, .slice none 0 0, .slice none 0 0, .slice none 0 0, .slice none 0 0, .slice none 0 0]) := hid (Blk.kept (by (with_reducible repeat (first | exact Br4 | refine Blk.oth ?_ | refine Blk.kept ?_ (below_drew1 _) | refine Blk.kept ?_ (below_alloc _))); done) hbu); have Vr5u9 : Hid (Blk u9 (w.heap.size + 1 + 1) 54 #[.slice none 0 0, .int .i64 0, .int .i64 0, .int .i64 0, .int .i64 0]) := hid (Blk.kept (by (with_reducible repeat (first | exact Br5 | refine Blk.oth ?_ | refine Blk.kept ?_ (below_drew1 _) | refine Blk.kept ?_ (below_alloc _))); done) hbu); have vx4 := Vr4u9.out.cellF; have vy4 := Vr4u9.out.frz; have vx5 := Vr5u9.out.cellF; have vy5 := Vr5u9.out.frz; have HO9 : Hid (u9.ownsRow w.heap.size 126 6 (.slice va l.length vc) l.length (l.flatMap cS)) := hid (own_kept (own_kept HOk.out (below_drew1 _)) hbu); have hsu := hbu.size; (try simp at hsu); have hbb : Hid (Below w.heap.size w u9) := hid (bl_then (by have := hb1.out; exact blBy) hbu); replace hst9 := hid hst9; clear hbu))
          all_goals go_wp2
          all_goals exact bodyPost_ret (v := .tuple #[.agg #[.bool true, .string (strOfNums m.s), .int .i64 m.line, .int .i64 m.col, .slice none 0 0, .slice none 0 0, .slice none 0 0, .slice none 0 0, .slice va l.length vc], .agg #[.slice (some ⟨b, o9, none⟩) s9.l.length c9, .int .i64 s9.cd, .int .i64 0, .int .i64 s9.ln, .int .i64 s9.cl]]) (by simp [results, Tryz.results22, go_sem, vx4, vx5, zr4, zr5]) rfl ⟨⟨⟨⟨true, m.s, atM m, [], [], [], [], l⟩, .slice none 0 0, .slice none 0 0, .slice none 0 0, .slice none 0 0, .slice va l.length vc⟩, s9, o9, c9, hid (by rw [HEM.out]; simp only []; rw [hsy.out, HSS.out]), hid (by rw [HEM.out]; simp only []; rw [hsy.out, HSS.out]; exact he9.out), rfl, hid ⟨rowS_nil _ _ _, rowS_nil _ _ _, rowS_nil _ _ _, own_row (own_keep (f := fun k => k ≠ w.heap.size + 1 ∧ k ≠ w.heap.size + 1 + 1) HO9.out (fun q hq => ⟨fun e => (by obtain ⟨_, _, cur, hc⟩ := own_type HO9.out hq; subst e; have h2 : u9.heap[w.heap.size + 1]? = _ := Vr4u9.out; rw [h2] at hc; cases hc), fun e => (by obtain ⟨_, _, cur, hc⟩ := own_type HO9.out hq; subst e; have h2 : u9.heap[w.heap.size + 1 + 1]? = _ := Vr5u9.out; rw [h2] at hc; cases hc)⟩) (by exact kpBy)) (fun q hq => ⟨(own_type HO9.out hq).1, by have := (own_type HO9.out hq).2.1; simp; omega⟩), [], rfl, rowS_nil _ _ _, by simp⟩, hst9⟩, by have := hbb.out; exact blBy⟩
        | false =>
          have HSG := hid (symL_go (l := l) (s := t) hcd hj)
          have k3 : (t.cd == 0) = true := by rw [hcd]; rfl
          have HLT : Hid (muM (symM t).2 < muM t) := hid (mu_sym_lt hcd)
          replace hcd := hid hcd
          go_wp2_with fail
          refine (isR w0 b o c t _ ⟨#[125]⟩ [125] rfl (by decide) hst.out (bl_then HB.out (by have := hb0.out; exact blBy))).mono ?_
          rintro e v1 ⟨rfl, hb1⟩
          have HV1 := hid hb1
          replace Bs : Blk v1 (w.heap.size) 54 #[.slice (some ⟨b, o, none⟩) t.l.length c, .int .i64 t.cd, .int .i64 0, .int .i64 t.ln, .int .i64 t.cl] := Blk.kept (Bs.is (by first | rfl | simp)) hb1
          replace Bq : Blk v1 (Q) 74 #[.bool true, .string (strOfNums m.s), .int .i64 m.line, .int .i64 m.col, .slice none 0 0, .slice none 0 0, .slice none 0 0, .slice none 0 0, .slice va l.length vc] := Blk.kept (Bq.is (by first | rfl | simp)) hb1
          replace Br4 : Blk v1 (w.heap.size + 1) 74 #[.bool false, .string ⟨#[]⟩, .int .i64 0, .int .i64 0, .slice none 0 0, .slice none 0 0, .slice none 0 0, .slice none 0 0, .slice none 0 0] := Blk.kept (Br4.is (by first | rfl | simp)) hb1
          replace Br5 : Blk v1 (w.heap.size + 1 + 1) 54 #[.slice none 0 0, .int .i64 0, .int .i64 0, .int .i64 0, .int .i64 0] := Blk.kept (Br5.is (by first | rfl | simp)) hb1
          clear xs ys xq yq xr4 yr4 xr5 yr5
          have hs1 := hb1.size
          try simp at hs1
          have xs := Bs.cellF
          have ys := Bs.frz
          replace zs : w.heap.size < v1.heap.size := by omega
          have xq := Bq.cellF
          have yq := Bq.frz
          replace zq : Q < v1.heap.size := by omega
          have xr4 := Br4.cellF
          have yr4 := Br4.frz
          replace zr4 : w.heap.size + 1 < v1.heap.size := by omega
          have xr5 := Br5.cellF
          have yr5 := Br5.frz
          replace zr5 : w.heap.size + 1 + 1 < v1.heap.size := by omega
          replace hb1 : Hid (Below w.heap.size w v1) := hid (bl_then (by have := hb0.out; exact blBy) hb1)
          rw [hj]
          go_wp2_with fail
          refine (namedR w0 b o c t _ hst.out (bl_then HB.out (by have := hb1.out; exact blBy))).mono ?_
          rintro e v2 ⟨⟨k, n, t4, ka, kc, na, nc, o4, c4, hk, hn, he4, rfl, hkk, hkn, hst4⟩, hb2⟩
          have HV2 := hid (bl_then HV1.out hb2)
          replace Bs : Blk v2 (w.heap.size) 54 #[.slice (some ⟨b, o, none⟩) t.l.length c, .int .i64 t.cd, .int .i64 0, .int .i64 t.ln, .int .i64 t.cl] := Blk.kept (Bs.is (by first | rfl | simp)) hb2
          replace Bq : Blk v2 (Q) 74 #[.bool true, .string (strOfNums m.s), .int .i64 m.line, .int .i64 m.col, .slice none 0 0, .slice none 0 0, .slice none 0 0, .slice none 0 0, .slice va l.length vc] := Blk.kept (Bq.is (by first | rfl | simp)) hb2
          replace Br4 : Blk v2 (w.heap.size + 1) 74 #[.bool false, .string ⟨#[]⟩, .int .i64 0, .int .i64 0, .slice none 0 0, .slice none 0 0, .slice none 0 0, .slice none 0 0, .slice none 0 0] := Blk.kept (Br4.is (by first | rfl | simp)) hb2
          replace Br5 : Blk v2 (w.heap.size + 1 + 1) 54 #[.slice none 0 0, .int .i64 0, .int .i64 0, .int .i64 0, .int .i64 0] := Blk.kept (Br5.is (by first | rfl | simp)) hb2
          clear xs ys xq yq xr4 yr4 xr5 yr5
          have hs2 := hb2.size
          try simp at hs2
          have xs := Bs.cellF
          have ys := Bs.frz
          replace zs : w.heap.size < v2.heap.size := by omega
          have xq := Bq.cellF
          have yq := Bq.frz
          replace zq : Q < v2.heap.size := by omega
          have xr4 := Br4.cellF
          have yr4 := Br4.frz
          replace zr4 : w.heap.size + 1 < v2.heap.size := by omega
          have xr5 := Br5.cellF
          have yr5 := Br5.frz
          replace zr5 : w.heap.size + 1 + 1 < v2.heap.size := by omega
          replace hb2 : Hid (Below w.heap.size w v2) := hid (bl_then (by have := hb1.out; exact blBy) hb2)
          go_upto_region 8 with fail
          have Es : Blk (((v2.alloc (.cells #[.int .i64 k.kind, .string (strOfNums k.s), .int .u64 k.n, .slice ka k.b.length kc, .int .i64 k.line, .int .i64 k.col] 58)).alloc (.cells #[.int .i64 n.kind, .string (strOfNums n.s), .int .u64 n.n, .slice na n.b.length nc, .int .i64 n.line, .int .i64 n.col] 58)).alloc (.cells #[.slice (some ⟨b, o4, none⟩) t4.l.length c4, .int .i64 t4.cd, .int .i64 0, .int .i64 t4.ln, .int .i64 t4.cl] 54)) (w.heap.size) 54 #[.slice (some ⟨b, o, none⟩) t.l.length c, .int .i64 t.cd, .int .i64 0, .int .i64 t.ln, .int .i64 t.cl] := ((((Bs.kept (below_alloc _)).kept (below_alloc _)).kept (below_alloc _)).is (by first | rfl | simp))
          have Eq : Blk (((v2.alloc (.cells #[.int .i64 k.kind, .string (strOfNums k.s), .int .u64 k.n, .slice ka k.b.length kc, .int .i64 k.line, .int .i64 k.col] 58)).alloc (.cells #[.int .i64 n.kind, .string (strOfNums n.s), .int .u64 n.n, .slice na n.b.length nc, .int .i64 n.line, .int .i64 n.col] 58)).alloc (.cells #[.slice (some ⟨b, o4, none⟩) t4.l.length c4, .int .i64 t4.cd, .int .i64 0, .int .i64 t4.ln, .int .i64 t4.cl] 54)) (Q) 74 #[.bool true, .string (strOfNums m.s), .int .i64 m.line, .int .i64 m.col, .slice none 0 0, .slice none 0 0, .slice none 0 0, .slice none 0 0, .slice va l.length vc] := ((((Bq.kept (below_alloc _)).kept (below_alloc _)).kept (below_alloc _)).is (by first | rfl | simp))
          have Er4 : Blk (((v2.alloc (.cells #[.int .i64 k.kind, .string (strOfNums k.s), .int .u64 k.n, .slice ka k.b.length kc, .int .i64 k.line, .int .i64 k.col] 58)).alloc (.cells #[.int .i64 n.kind, .string (strOfNums n.s), .int .u64 n.n, .slice na n.b.length nc, .int .i64 n.line, .int .i64 n.col] 58)).alloc (.cells #[.slice (some ⟨b, o4, none⟩) t4.l.length c4, .int .i64 t4.cd, .int .i64 0, .int .i64 t4.ln, .int .i64 t4.cl] 54)) (w.heap.size + 1) 74 #[.bool false, .string ⟨#[]⟩, .int .i64 0, .int .i64 0, .slice none 0 0, .slice none 0 0, .slice none 0 0, .slice none 0 0, .slice none 0 0] := ((((Br4.kept (below_alloc _)).kept (below_alloc _)).kept (below_alloc _)).is (by first | rfl | simp))
          have Er5 : Blk (((v2.alloc (.cells #[.int .i64 k.kind, .string (strOfNums k.s), .int .u64 k.n, .slice ka k.b.length kc, .int .i64 k.line, .int .i64 k.col] 58)).alloc (.cells #[.int .i64 n.kind, .string (strOfNums n.s), .int .u64 n.n, .slice na n.b.length nc, .int .i64 n.line, .int .i64 n.col] 58)).alloc (.cells #[.slice (some ⟨b, o4, none⟩) t4.l.length c4, .int .i64 t4.cd, .int .i64 0, .int .i64 t4.ln, .int .i64 t4.cl] 54)) (w.heap.size + 1 + 1) 54 #[.slice none 0 0, .int .i64 0, .int .i64 0, .int .i64 0, .int .i64 0] := ((((Br5.kept (below_alloc _)).kept (below_alloc _)).kept (below_alloc _)).is (by first | rfl | simp))
          have Ek : Blk (((v2.alloc (.cells #[.int .i64 k.kind, .string (strOfNums k.s), .int .u64 k.n, .slice ka k.b.length kc, .int .i64 k.line, .int .i64 k.col] 58)).alloc (.cells #[.int .i64 n.kind, .string (strOfNums n.s), .int .u64 n.n, .slice na n.b.length nc, .int .i64 n.line, .int .i64 n.col] 58)).alloc (.cells #[.slice (some ⟨b, o4, none⟩) t4.l.length c4, .int .i64 t4.cd, .int .i64 0, .int .i64 t4.ln, .int .i64 t4.cl] 54)) (v2.heap.size) 58 #[.int .i64 k.kind, .string (strOfNums k.s), .int .u64 k.n, .slice ka k.b.length kc, .int .i64 k.line, .int .i64 k.col] := ((((Blk.newAt (by simp)).kept (below_alloc _)).kept (below_alloc _)).is (by first | rfl | simp))
          have En : Blk (((v2.alloc (.cells #[.int .i64 k.kind, .string (strOfNums k.s), .int .u64 k.n, .slice ka k.b.length kc, .int .i64 k.line, .int .i64 k.col] 58)).alloc (.cells #[.int .i64 n.kind, .string (strOfNums n.s), .int .u64 n.n, .slice na n.b.length nc, .int .i64 n.line, .int .i64 n.col] 58)).alloc (.cells #[.slice (some ⟨b, o4, none⟩) t4.l.length c4, .int .i64 t4.cd, .int .i64 0, .int .i64 t4.ln, .int .i64 t4.cl] 54)) (v2.heap.size + 1) 58 #[.int .i64 n.kind, .string (strOfNums n.s), .int .u64 n.n, .slice na n.b.length nc, .int .i64 n.line, .int .i64 n.col] := (((Blk.newAt (by simp)).kept (below_alloc _)).is (by first | rfl | simp))
          have Ex : Blk (((v2.alloc (.cells #[.int .i64 k.kind, .string (strOfNums k.s), .int .u64 k.n, .slice ka k.b.length kc, .int .i64 k.line, .int .i64 k.col] 58)).alloc (.cells #[.int .i64 n.kind, .string (strOfNums n.s), .int .u64 n.n, .slice na n.b.length nc, .int .i64 n.line, .int .i64 n.col] 58)).alloc (.cells #[.slice (some ⟨b, o4, none⟩) t4.l.length c4, .int .i64 t4.cd, .int .i64 0, .int .i64 t4.ln, .int .i64 t4.cl] 54)) (v2.heap.size + 1 + 1) 54 #[.slice (some ⟨b, o4, none⟩) t4.l.length c4, .int .i64 t4.cd, .int .i64 0, .int .i64 t4.ln, .int .i64 t4.cl] := ((Blk.newAt (by simp)).is (by first | rfl | simp))
          have hbz : Hid (Below w.heap.size w (((v2.alloc (.cells #[.int .i64 k.kind, .string (strOfNums k.s), .int .u64 k.n, .slice ka k.b.length kc, .int .i64 k.line, .int .i64 k.col] 58)).alloc (.cells #[.int .i64 n.kind, .string (strOfNums n.s), .int .u64 n.n, .slice na n.b.length nc, .int .i64 n.line, .int .i64 n.col] 58)).alloc (.cells #[.slice (some ⟨b, o4, none⟩) t4.l.length c4, .int .i64 t4.cd, .int .i64 0, .int .i64 t4.ln, .int .i64 t4.cl] 54))) := hid (by have := hb2.out; exact blBy)
          have HOz : Hid ((((v2.alloc (.cells #[.int .i64 k.kind, .string (strOfNums k.s), .int .u64 k.n, .slice ka k.b.length kc, .int .i64 k.line, .int .i64 k.col] 58)).alloc (.cells #[.int .i64 n.kind, .string (strOfNums n.s), .int .u64 n.n, .slice na n.b.length nc, .int .i64 n.line, .int .i64 n.col] 58)).alloc (.cells #[.slice (some ⟨b, o4, none⟩) t4.l.length c4, .int .i64 t4.cd, .int .i64 0, .int .i64 t4.ln, .int .i64 t4.cl] 54)).ownsRow w.heap.size 126 6 (.slice va l.length vc) l.length (l.flatMap cS)) := hid (own_kept HOW.out (bl_alloc (bl_alloc (bl_alloc HV2.out _) _) _))
          clear Bs xs ys zs Bq xq yq zq Br4 xr4 yr4 zr4 Br5 xr5 yr5 zr5
          generalize (((v2.alloc (.cells #[.int .i64 k.kind, .string (strOfNums k.s), .int .u64 k.n, .slice ka k.b.length kc, .int .i64 k.line, .int .i64 k.col] 58)).alloc (.cells #[.int .i64 n.kind, .string (strOfNums n.s), .int .u64 n.n, .slice na n.b.length nc, .int .i64 n.line, .int .i64 n.col] 58)).alloc (.cells #[.slice (some ⟨b, o4, none⟩) t4.l.length c4, .int .i64 t4.cd, .int .i64 0, .int .i64 t4.ln, .int .i64 t4.cl] 54)) = wz at *
          have Bs := Es
          clear Es
          have xs := Bs.cellF
          have zs := Bs.lt
          have Bq := Eq
          clear Eq
          have xq := Bq.cellF
          have zq := Bq.lt
          have Br4 := Er4
          clear Er4
          have xr4 := Br4.cellF
          have zr4 := Br4.lt
          have Br5 := Er5
          clear Er5
          have xr5 := Br5.cellF
          have zr5 := Br5.lt
          have Bk := Ek
          clear Ek
          have xk := Bk.cellF
          have zk := Bk.lt
          have Bn := En
          clear En
          have xn := Bn.cellF
          have zn := Bn.lt
          have Bx := Ex
          clear Ex
          have xx := Bx.cellF
          have zx := Bx.lt
          have yq := Bq.frz
          go_cut [] from 31 to 61 (fun wc => ∃ la lc, Hid (Below w.heap.size w wc) ∧ Hid (Q < wc.heap.size) ∧ Hid (Blk wc Q 74 #[.bool true, .string (strOfNums m.s), .int .i64 m.line, .int .i64 m.col, .slice none 0 0, .slice none 0 0, .slice none 0 0, .slice none 0 0, .slice la (l.length + 1) lc]) ∧ Hid (Blk wc (w.heap.size) 54 #[.slice (some ⟨b, o, none⟩) t.l.length c, .int .i64 t.cd, .int .i64 0, .int .i64 t.ln, .int .i64 t.cl]) ∧ Hid (Blk wc (w.heap.size + 1) 74 #[.bool false, .string ⟨#[]⟩, .int .i64 0, .int .i64 0, .slice none 0 0, .slice none 0 0, .slice none 0 0, .slice none 0 0, .slice none 0 0]) ∧ Hid (Blk wc (w.heap.size + 1 + 1) 54 #[.slice none 0 0, .int .i64 0, .int .i64 0, .int .i64 0, .int .i64 0]) ∧ Hid (Blk wc (v2.heap.size + 1 + 1) 54 #[.slice (some ⟨b, o4, none⟩) t4.l.length c4, .int .i64 t4.cd, .int .i64 0, .int .i64 t4.ln, .int .i64 t4.cl]) ∧ Hid (wc.ownsRow w.heap.size 126 6 (.slice la (l.length + 1) lc) (l ++ [(⟨k.s, n.n, atM k, atM n⟩ : MS)]).length ((l ++ [(⟨k.s, n.n, atM k, atM n⟩ : MS)]).flatMap cS)))
          case first =>
            refine wp_region_held_drew (S := (fun W => (W.cell? ⟨v2.heap.size, 0, none⟩ = some (.int .i64 k.kind) ∧ W.cell? ⟨v2.heap.size, 1, none⟩ = some (.string (strOfNums k.s)) ∧ W.cell? ⟨v2.heap.size, 2, none⟩ = some (.int .u64 k.n) ∧ W.cell? ⟨v2.heap.size, 3, none⟩ = some (.slice ka k.b.length kc) ∧ W.cell? ⟨v2.heap.size, 4, none⟩ = some (.int .i64 k.line) ∧ W.cell? ⟨v2.heap.size, 5, none⟩ = some (.int .i64 k.col)) ∧ (W.cell? ⟨v2.heap.size + 1, 0, none⟩ = some (.int .i64 n.kind) ∧ W.cell? ⟨v2.heap.size + 1, 1, none⟩ = some (.string (strOfNums n.s)) ∧ W.cell? ⟨v2.heap.size + 1, 2, none⟩ = some (.int .u64 n.n) ∧ W.cell? ⟨v2.heap.size + 1, 3, none⟩ = some (.slice na n.b.length nc) ∧ W.cell? ⟨v2.heap.size + 1, 4, none⟩ = some (.int .i64 n.line) ∧ W.cell? ⟨v2.heap.size + 1, 5, none⟩ = some (.int .i64 n.col)))) (by kernel_rfl) ?_ (fun hHeld => ?_)
            · exact ⟨blkc6 (t := 58) (Bk.kept (below_drew1 _)), blkc6 (t := 58) (Bn.kept (below_drew1 _))⟩
            refine wpAnyH_take (i := 0) (v := ?_) rfl (by kernel_rfl) (by kernel_rfl) (by kernel_rfl) (fun _ _ _ h => h) (Or.inl ⟨by rfl, ?_⟩) (by assumption) ?_
            rotate_left
            · (intro w hSw; (try dsimp only at hSw); go_simp; (try with_reducible rfl))
            try simp only [Act.put, List.setIfInBounds_toArray, List.set_cons_zero, List.set_cons_succ]
            refine wpAnyH_take (i := 2) (v := ?_) rfl (by kernel_rfl) (by kernel_rfl) (by kernel_rfl) (fun _ _ _ h => h) (Or.inl ⟨by rfl, ?_⟩) (by assumption) ?_
            rotate_left
            · (intro w hSw; (try dsimp only at hSw); go_simp; (try with_reducible rfl))
            try simp only [Act.put, List.setIfInBounds_toArray, List.set_cons_zero, List.set_cons_succ]
            refine wpAnyH_take (i := 3) (v := ?_) rfl (by kernel_rfl) (by kernel_rfl) (by kernel_rfl) (fun _ _ _ h => h) (Or.inl ⟨by rfl, ?_⟩) (by assumption) ?_
            rotate_left
            · (intro w hSw; (try dsimp only at hSw); go_simp; (try with_reducible rfl))
            try simp only [Act.put, List.setIfInBounds_toArray, List.set_cons_zero, List.set_cons_succ]
            refine wpAnyH_take (i := 4) (v := ?_) rfl (by kernel_rfl) (by kernel_rfl) (by kernel_rfl) (fun _ _ _ h => h) (Or.inl ⟨by rfl, ?_⟩) (by assumption) ?_
            rotate_left
            · (intro w hSw; (try dsimp only at hSw); go_simp; (try with_reducible rfl))
            try simp only [Act.put, List.setIfInBounds_toArray, List.set_cons_zero, List.set_cons_succ]
            refine wpAnyH_take (i := 5) (v := ?_) rfl (by kernel_rfl) (by kernel_rfl) (by kernel_rfl) (fun _ _ _ h => h) (Or.inl ⟨by rfl, ?_⟩) (by assumption) ?_
            rotate_left
            · (intro w hSw; (try dsimp only at hSw); go_simp; (try with_reducible rfl))
            try simp only [Act.put, List.setIfInBounds_toArray, List.set_cons_zero, List.set_cons_succ]
            refine wpAnyH_take (i := 6) (v := ?_) rfl (by kernel_rfl) (by kernel_rfl) (by kernel_rfl) (fun _ _ _ h => h) (Or.inl ⟨by rfl, ?_⟩) (by assumption) ?_
            rotate_left
            · (intro w hSw; (try dsimp only at hSw); go_simp; (try with_reducible rfl))
            try simp only [Act.put, List.setIfInBounds_toArray, List.set_cons_zero, List.set_cons_succ]
            refine wpAnyH_take (i := 8) (v := ?_) rfl (by kernel_rfl) (by kernel_rfl) (by kernel_rfl) (fun _ _ _ h => h) (Or.inl ⟨by rfl, ?_⟩) (by assumption) ?_
            rotate_left
            · (intro w hSw; (try dsimp only at hSw); go_simp; (try with_reducible rfl))
            try simp only [Act.put, List.setIfInBounds_toArray, List.set_cons_zero, List.set_cons_succ]
            refine wpAnyH_ready (rs := [1, 7]) (by kernel_rfl) (by simp) ?_
            refine AllReadyH.cons rfl (fun K hK => ?_) ?_
            · go_simp
              refine hK.out _ _ ?_ (fun hHeld => ?_)
              · first | assumption | exact ⟨blkc6 (t := 58) (Bk.kept (below_drew1 _)), blkc6 (t := 58) (Bn.kept (below_drew1 _))⟩
              clear hK K
              try simp only [Act.put, List.setIfInBounds_toArray, List.set_cons_zero, List.set_cons_succ]
              refine wpAnyH_ready (rs := [7]) (by kernel_rfl) (by simp) ?_
              refine AllReadyH.cons rfl (fun K hK => ?_) ?_
              · go_simp
                go_wp2_with (go_at_call 20; refine (atR _ k ka kc).mono ?_; rintro e u1 ⟨rfl, hbu⟩; have Vqu1 : Hid (Blk u1 (Q) 74 #[.bool true, .string (strOfNums m.s), .int .i64 m.line, .int .i64 m.col, .slice none 0 0, .slice none 0 0, .slice none 0 0, .slice none 0 0, .slice va l.length vc]) := hid (Blk.kept (Bq.kept (below_drew1 _)) hbu); have Vku1 : Hid (Blk u1 (v2.heap.size) 58 #[.int .i64 k.kind, .string (strOfNums k.s), .int .u64 k.n, .slice ka k.b.length kc, .int .i64 k.line, .int .i64 k.col]) := hid (Blk.kept (Bk.kept (below_drew1 _)) hbu); have Vnu1 : Hid (Blk u1 (v2.heap.size + 1) 58 #[.int .i64 n.kind, .string (strOfNums n.s), .int .u64 n.n, .slice na n.b.length nc, .int .i64 n.line, .int .i64 n.col]) := hid (Blk.kept (Bn.kept (below_drew1 _)) hbu); have HZ1 := hid (bl_then (below_drew1 wz) hbu); have HO1 : Hid (u1.ownsRow w.heap.size 126 6 (.slice va l.length vc) l.length (l.flatMap cS)) := hid (own_kept (own_kept HOz.out (below_drew1 _)) hbu); have vq1 := Vqu1.out.cellF; have hbb1 : Hid (Below w.heap.size w u1) := hid (bl_then (by have := hbz.out; exact blBy) hbu); clear hbu)
                refine hK.out _ _ ?_ (fun hHeld => ?_)
                · first | assumption | exact ⟨blkc6 (t := 58) (Vku1.out), blkc6 (t := 58) (Vnu1.out)⟩
                clear hK K
                try simp only [Act.put, List.setIfInBounds_toArray, List.set_cons_zero, List.set_cons_succ]
                refine wpAnyH_ready (rs := [9]) (by kernel_rfl) (by simp) ?_
                refine AllReadyH.cons rfl (fun K hK => ?_) ?_
                · go_simp
                  go_wp2_with (go_at_call 20; refine (atR _ n na nc).mono ?_; rintro e u2 ⟨rfl, hbu⟩; have Vqu2 : Hid (Blk u2 (Q) 74 #[.bool true, .string (strOfNums m.s), .int .i64 m.line, .int .i64 m.col, .slice none 0 0, .slice none 0 0, .slice none 0 0, .slice none 0 0, .slice va l.length vc]) := hid (Blk.kept (Vqu1.out) hbu); have Vku2 : Hid (Blk u2 (v2.heap.size) 58 #[.int .i64 k.kind, .string (strOfNums k.s), .int .u64 k.n, .slice ka k.b.length kc, .int .i64 k.line, .int .i64 k.col]) := hid (Blk.kept (Vku1.out) hbu); have Vnu2 : Hid (Blk u2 (v2.heap.size + 1) 58 #[.int .i64 n.kind, .string (strOfNums n.s), .int .u64 n.n, .slice na n.b.length nc, .int .i64 n.line, .int .i64 n.col]) := hid (Blk.kept (Vnu1.out) hbu); have HZ2 := hid (bl_then HZ1.out hbu); have HO2 : Hid (u2.ownsRow w.heap.size 126 6 (.slice va l.length vc) l.length (l.flatMap cS)) := hid (own_kept HO1.out hbu); have vq2 := Vqu2.out.cellF; have hbb2 : Hid (Below w.heap.size w u2) := hid (bl_then hbb1.out hbu); have zq2 := Vqu2.out.lt; have zk2 := Vku2.out.lt; have zn2 := Vnu2.out.lt; clear hbu)
                  refine hK.out _ _ ?_ (fun hHeld => ?_)
                  · first | assumption | exact ⟨blkc6 (t := 58) (Vku2.out), blkc6 (t := 58) (Vnu2.out)⟩
                  clear hK K
                  try simp only [Act.put, List.setIfInBounds_toArray, List.set_cons_zero, List.set_cons_succ]
                  obtain ⟨la, lc, x3, HRUN, HOWN, HGROW⟩ := appendSr w.heap.size (.slice va l.length vc) l ⟨k.s, n.n, atM k, atM n⟩ u2 HO2.out (by have := hbb2.out.size; omega) (by have := htot.out; omega)
                  refine wpAnyH_take (i := 10) (v := ?_) rfl (by kernel_rfl) (by kernel_rfl) (by kernel_rfl) (fun _ _ _ h => h) (Or.inl ⟨by rfl, ?_⟩) (by assumption) ?_
                  rotate_left
                  · (intro w hSw; (try dsimp only at hSw); go_simp; (try with_reducible rfl))
                  try simp only [Act.put, List.setIfInBounds_toArray, List.set_cons_zero, List.set_cons_succ]
                  refine wpAnyH_ready (rs := [11]) (by kernel_rfl) (by simp) ?_
                  refine AllReadyH.cons rfl (fun K hK => ?_) ?_
                  · go_simp
                    refine hK.out _ _ ?_ (fun hHeld => ?_)
                    · first | assumption | exact ⟨blkc6 (t := 58) (Vku2.out.kept (below_alloc _)), blkc6 (t := 58) (Vnu2.out.kept (below_alloc _))⟩
                    clear hK K
                    try simp only [Act.put, List.setIfInBounds_toArray, List.set_cons_zero, List.set_cons_succ]
                    refine wpAnyH_ready (rs := [12]) (by kernel_rfl) (by simp) ?_
                    refine AllReadyH.cons rfl (fun K hK => ?_) ?_
                    · refine step_append_ran rfl _ _ 72 72 rfl rfl _ _ (.slice la (l.length + 1) lc) x3 rfl rfl HRUN.out ?_
                      have Gs := hid (grow_blk HGROW.out HO2.out (Bs.kept HZ2.out) (by decide))
                      have Gq := hid (grow_blk HGROW.out HO2.out Vqu2.out (by decide))
                      have Gr4 := hid (grow_blk HGROW.out HO2.out (Br4.kept HZ2.out) (by decide))
                      have Gr5 := hid (grow_blk HGROW.out HO2.out (Br5.kept HZ2.out) (by decide))
                      have Gk := hid (grow_blk HGROW.out HO2.out Vku2.out (by decide))
                      have Gn := hid (grow_blk HGROW.out HO2.out Vnu2.out (by decide))
                      have Gx := hid (grow_blk HGROW.out HO2.out (Bx.kept HZ2.out) (by decide))
                      have gq3 := Gq.out.cellF
                      have gf3 := Gq.out.frz
                      have hs3 := HGROW.out.size
                      refine hK.out _ _ ?_ (fun hHeld => ?_)
                      · first | assumption | exact ⟨blkc6 (t := 58) (Gk.out), blkc6 (t := 58) (Gn.out)⟩
                      clear hK K
                      try simp only [Act.put, List.setIfInBounds_toArray, List.set_cons_zero, List.set_cons_succ]
                      refine wpAnyH_take (i := 13) (v := ?_) rfl (by kernel_rfl) (by kernel_rfl) (by kernel_rfl) (fun _ _ _ h => h) (Or.inl ⟨by rfl, ?_⟩) (by assumption) ?_
                      rotate_left
                      · (intro w hSw; (try dsimp only at hSw); go_simp; (try with_reducible rfl))
                      try simp only [Act.put, List.setIfInBounds_toArray, List.set_cons_zero, List.set_cons_succ]
                      refine wpAnyH_ready (rs := [14]) (by kernel_rfl) (by simp) ?_
                      refine AllReadyH.cons rfl (fun K hK => ?_) ?_
                      · go_simp
                        refine hK.out _ _ ?_ (fun hHeld => ?_)
                        · first | assumption | exact ⟨blkc6 (t := 58) (Gk.out.other (show v2.heap.size ≠ Q by omega) _), blkc6 (t := 58) (Gn.out.other (show v2.heap.size + 1 ≠ Q by omega) _)⟩
                        clear hK K
                        try simp only [Act.put, List.setIfInBounds_toArray, List.set_cons_zero, List.set_cons_succ]
                        refine wpAnyH_done (by kernel_rfl) ?_ _
                        have hkx : Keep (· < w.heap.size) u2 x3 := Keep.ofGrow HGROW.out (fun q hq e => by have := (own_type HO2.out e).1; omega)
                        have hbx : Hid (Below w.heap.size w x3) := hid (hbb2.out.trans (hkx.below hbb2.out.size (fun k hk => hk)))
                        have HO4 : Hid ((x3.setCell ⟨Q, 8, none⟩ (.slice la (l.length + 1) lc)).ownsRow w.heap.size 126 6 (.slice la (l.length + 1) lc) (l ++ [(⟨k.s, n.n, atM k, atM n⟩ : MS)]).length ((l ++ [(⟨k.s, n.n, atM k, atM n⟩ : MS)]).flatMap cS)) := hid (own_keep (f := (· ≠ Q)) HOWN.out (fun q hq (e : q = Q) => by obtain ⟨_, _, cur, hc⟩ := own_type HOWN.out hq; subst e; have h2 : x3.heap[q]? = _ := Gq.out; rw [h2] at hc; cases hc) (Keep.setCell _ _ _ (by simp)))
                        go_wp2_with fail
                        go_meet
                        exact ⟨la, lc, hid (by have := hbx.out; exact blBy), hid (by simp; omega), hid ((Gq.out.set 8 _).is (by simp)), hid (Gs.out.other (a := ⟨Q, 8, none⟩) (show w.heap.size ≠ Q by omega) _), hid (Gr4.out.other (a := ⟨Q, 8, none⟩) (show w.heap.size + 1 ≠ Q by omega) _), hid (Gr5.out.other (a := ⟨Q, 8, none⟩) (show w.heap.size + 1 + 1 ≠ Q by omega) _), hid (Gx.out.other (a := ⟨Q, 8, none⟩) (show v2.heap.size + 1 + 1 ≠ Q by omega) _), HO4⟩
                      exact AllReadyH.nil
                    exact AllReadyH.nil
                  exact AllReadyH.nil
                exact AllReadyH.nil
              exact AllReadyH.nil
            refine AllReadyH.cons rfl (fun K hK => ?_) ?_
            · go_simp
              go_wp2_with (go_at_call 20; refine (atR _ k ka kc).mono ?_; rintro e u1 ⟨rfl, hbu⟩; have Vqu1 : Hid (Blk u1 (Q) 74 #[.bool true, .string (strOfNums m.s), .int .i64 m.line, .int .i64 m.col, .slice none 0 0, .slice none 0 0, .slice none 0 0, .slice none 0 0, .slice va l.length vc]) := hid (Blk.kept (Bq.kept (below_drew1 _)) hbu); have Vku1 : Hid (Blk u1 (v2.heap.size) 58 #[.int .i64 k.kind, .string (strOfNums k.s), .int .u64 k.n, .slice ka k.b.length kc, .int .i64 k.line, .int .i64 k.col]) := hid (Blk.kept (Bk.kept (below_drew1 _)) hbu); have Vnu1 : Hid (Blk u1 (v2.heap.size + 1) 58 #[.int .i64 n.kind, .string (strOfNums n.s), .int .u64 n.n, .slice na n.b.length nc, .int .i64 n.line, .int .i64 n.col]) := hid (Blk.kept (Bn.kept (below_drew1 _)) hbu); have HZ1 := hid (bl_then (below_drew1 wz) hbu); have HO1 : Hid (u1.ownsRow w.heap.size 126 6 (.slice va l.length vc) l.length (l.flatMap cS)) := hid (own_kept (own_kept HOz.out (below_drew1 _)) hbu); have vq1 := Vqu1.out.cellF; have hbb1 : Hid (Below w.heap.size w u1) := hid (bl_then (by have := hbz.out; exact blBy) hbu); clear hbu)
              refine hK.out _ _ ?_ (fun hHeld => ?_)
              · first | assumption | exact ⟨blkc6 (t := 58) (Vku1.out), blkc6 (t := 58) (Vnu1.out)⟩
              clear hK K
              try simp only [Act.put, List.setIfInBounds_toArray, List.set_cons_zero, List.set_cons_succ]
              refine wpAnyH_ready (rs := [1, 9]) (by kernel_rfl) (by simp) ?_
              refine AllReadyH.cons rfl (fun K hK => ?_) ?_
              · go_simp
                refine hK.out _ _ ?_ (fun hHeld => ?_)
                · first | assumption | exact ⟨blkc6 (t := 58) (Vku1.out), blkc6 (t := 58) (Vnu1.out)⟩
                clear hK K
                try simp only [Act.put, List.setIfInBounds_toArray, List.set_cons_zero, List.set_cons_succ]
                refine wpAnyH_ready (rs := [9]) (by kernel_rfl) (by simp) ?_
                refine AllReadyH.cons rfl (fun K hK => ?_) ?_
                · go_simp
                  go_wp2_with (go_at_call 20; refine (atR _ n na nc).mono ?_; rintro e u2 ⟨rfl, hbu⟩; have Vqu2 : Hid (Blk u2 (Q) 74 #[.bool true, .string (strOfNums m.s), .int .i64 m.line, .int .i64 m.col, .slice none 0 0, .slice none 0 0, .slice none 0 0, .slice none 0 0, .slice va l.length vc]) := hid (Blk.kept (Vqu1.out) hbu); have Vku2 : Hid (Blk u2 (v2.heap.size) 58 #[.int .i64 k.kind, .string (strOfNums k.s), .int .u64 k.n, .slice ka k.b.length kc, .int .i64 k.line, .int .i64 k.col]) := hid (Blk.kept (Vku1.out) hbu); have Vnu2 : Hid (Blk u2 (v2.heap.size + 1) 58 #[.int .i64 n.kind, .string (strOfNums n.s), .int .u64 n.n, .slice na n.b.length nc, .int .i64 n.line, .int .i64 n.col]) := hid (Blk.kept (Vnu1.out) hbu); have HZ2 := hid (bl_then HZ1.out hbu); have HO2 : Hid (u2.ownsRow w.heap.size 126 6 (.slice va l.length vc) l.length (l.flatMap cS)) := hid (own_kept HO1.out hbu); have vq2 := Vqu2.out.cellF; have hbb2 : Hid (Below w.heap.size w u2) := hid (bl_then hbb1.out hbu); have zq2 := Vqu2.out.lt; have zk2 := Vku2.out.lt; have zn2 := Vnu2.out.lt; clear hbu)
                  refine hK.out _ _ ?_ (fun hHeld => ?_)
                  · first | assumption | exact ⟨blkc6 (t := 58) (Vku2.out), blkc6 (t := 58) (Vnu2.out)⟩
                  clear hK K
                  try simp only [Act.put, List.setIfInBounds_toArray, List.set_cons_zero, List.set_cons_succ]
                  obtain ⟨la, lc, x3, HRUN, HOWN, HGROW⟩ := appendSr w.heap.size (.slice va l.length vc) l ⟨k.s, n.n, atM k, atM n⟩ u2 HO2.out (by have := hbb2.out.size; omega) (by have := htot.out; omega)
                  refine wpAnyH_take (i := 10) (v := ?_) rfl (by kernel_rfl) (by kernel_rfl) (by kernel_rfl) (fun _ _ _ h => h) (Or.inl ⟨by rfl, ?_⟩) (by assumption) ?_
                  rotate_left
                  · (intro w hSw; (try dsimp only at hSw); go_simp; (try with_reducible rfl))
                  try simp only [Act.put, List.setIfInBounds_toArray, List.set_cons_zero, List.set_cons_succ]
                  refine wpAnyH_ready (rs := [11]) (by kernel_rfl) (by simp) ?_
                  refine AllReadyH.cons rfl (fun K hK => ?_) ?_
                  · go_simp
                    refine hK.out _ _ ?_ (fun hHeld => ?_)
                    · first | assumption | exact ⟨blkc6 (t := 58) (Vku2.out.kept (below_alloc _)), blkc6 (t := 58) (Vnu2.out.kept (below_alloc _))⟩
                    clear hK K
                    try simp only [Act.put, List.setIfInBounds_toArray, List.set_cons_zero, List.set_cons_succ]
                    refine wpAnyH_ready (rs := [12]) (by kernel_rfl) (by simp) ?_
                    refine AllReadyH.cons rfl (fun K hK => ?_) ?_
                    · refine step_append_ran rfl _ _ 72 72 rfl rfl _ _ (.slice la (l.length + 1) lc) x3 rfl rfl HRUN.out ?_
                      have Gs := hid (grow_blk HGROW.out HO2.out (Bs.kept HZ2.out) (by decide))
                      have Gq := hid (grow_blk HGROW.out HO2.out Vqu2.out (by decide))
                      have Gr4 := hid (grow_blk HGROW.out HO2.out (Br4.kept HZ2.out) (by decide))
                      have Gr5 := hid (grow_blk HGROW.out HO2.out (Br5.kept HZ2.out) (by decide))
                      have Gk := hid (grow_blk HGROW.out HO2.out Vku2.out (by decide))
                      have Gn := hid (grow_blk HGROW.out HO2.out Vnu2.out (by decide))
                      have Gx := hid (grow_blk HGROW.out HO2.out (Bx.kept HZ2.out) (by decide))
                      have gq3 := Gq.out.cellF
                      have gf3 := Gq.out.frz
                      have hs3 := HGROW.out.size
                      refine hK.out _ _ ?_ (fun hHeld => ?_)
                      · first | assumption | exact ⟨blkc6 (t := 58) (Gk.out), blkc6 (t := 58) (Gn.out)⟩
                      clear hK K
                      try simp only [Act.put, List.setIfInBounds_toArray, List.set_cons_zero, List.set_cons_succ]
                      refine wpAnyH_take (i := 13) (v := ?_) rfl (by kernel_rfl) (by kernel_rfl) (by kernel_rfl) (fun _ _ _ h => h) (Or.inl ⟨by rfl, ?_⟩) (by assumption) ?_
                      rotate_left
                      · (intro w hSw; (try dsimp only at hSw); go_simp; (try with_reducible rfl))
                      try simp only [Act.put, List.setIfInBounds_toArray, List.set_cons_zero, List.set_cons_succ]
                      refine wpAnyH_ready (rs := [14]) (by kernel_rfl) (by simp) ?_
                      refine AllReadyH.cons rfl (fun K hK => ?_) ?_
                      · go_simp
                        refine hK.out _ _ ?_ (fun hHeld => ?_)
                        · first | assumption | exact ⟨blkc6 (t := 58) (Gk.out.other (show v2.heap.size ≠ Q by omega) _), blkc6 (t := 58) (Gn.out.other (show v2.heap.size + 1 ≠ Q by omega) _)⟩
                        clear hK K
                        try simp only [Act.put, List.setIfInBounds_toArray, List.set_cons_zero, List.set_cons_succ]
                        refine wpAnyH_done (by kernel_rfl) ?_ _
                        have hkx : Keep (· < w.heap.size) u2 x3 := Keep.ofGrow HGROW.out (fun q hq e => by have := (own_type HO2.out e).1; omega)
                        have hbx : Hid (Below w.heap.size w x3) := hid (hbb2.out.trans (hkx.below hbb2.out.size (fun k hk => hk)))
                        have HO4 : Hid ((x3.setCell ⟨Q, 8, none⟩ (.slice la (l.length + 1) lc)).ownsRow w.heap.size 126 6 (.slice la (l.length + 1) lc) (l ++ [(⟨k.s, n.n, atM k, atM n⟩ : MS)]).length ((l ++ [(⟨k.s, n.n, atM k, atM n⟩ : MS)]).flatMap cS)) := hid (own_keep (f := (· ≠ Q)) HOWN.out (fun q hq (e : q = Q) => by obtain ⟨_, _, cur, hc⟩ := own_type HOWN.out hq; subst e; have h2 : x3.heap[q]? = _ := Gq.out; rw [h2] at hc; cases hc) (Keep.setCell _ _ _ (by simp)))
                        go_wp2_with fail
                        go_meet
                        exact ⟨la, lc, hid (by have := hbx.out; exact blBy), hid (by simp; omega), hid ((Gq.out.set 8 _).is (by simp)), hid (Gs.out.other (a := ⟨Q, 8, none⟩) (show w.heap.size ≠ Q by omega) _), hid (Gr4.out.other (a := ⟨Q, 8, none⟩) (show w.heap.size + 1 ≠ Q by omega) _), hid (Gr5.out.other (a := ⟨Q, 8, none⟩) (show w.heap.size + 1 + 1 ≠ Q by omega) _), hid (Gx.out.other (a := ⟨Q, 8, none⟩) (show v2.heap.size + 1 + 1 ≠ Q by omega) _), HO4⟩
                      exact AllReadyH.nil
                    exact AllReadyH.nil
                  exact AllReadyH.nil
                exact AllReadyH.nil
              refine AllReadyH.cons rfl (fun K hK => ?_) ?_
              · go_simp
                go_wp2_with (go_at_call 20; refine (atR _ n na nc).mono ?_; rintro e u2 ⟨rfl, hbu⟩; have Vqu2 : Hid (Blk u2 (Q) 74 #[.bool true, .string (strOfNums m.s), .int .i64 m.line, .int .i64 m.col, .slice none 0 0, .slice none 0 0, .slice none 0 0, .slice none 0 0, .slice va l.length vc]) := hid (Blk.kept (Vqu1.out) hbu); have Vku2 : Hid (Blk u2 (v2.heap.size) 58 #[.int .i64 k.kind, .string (strOfNums k.s), .int .u64 k.n, .slice ka k.b.length kc, .int .i64 k.line, .int .i64 k.col]) := hid (Blk.kept (Vku1.out) hbu); have Vnu2 : Hid (Blk u2 (v2.heap.size + 1) 58 #[.int .i64 n.kind, .string (strOfNums n.s), .int .u64 n.n, .slice na n.b.length nc, .int .i64 n.line, .int .i64 n.col]) := hid (Blk.kept (Vnu1.out) hbu); have HZ2 := hid (bl_then HZ1.out hbu); have HO2 : Hid (u2.ownsRow w.heap.size 126 6 (.slice va l.length vc) l.length (l.flatMap cS)) := hid (own_kept HO1.out hbu); have vq2 := Vqu2.out.cellF; have hbb2 : Hid (Below w.heap.size w u2) := hid (bl_then hbb1.out hbu); have zq2 := Vqu2.out.lt; have zk2 := Vku2.out.lt; have zn2 := Vnu2.out.lt; clear hbu)
                refine hK.out _ _ ?_ (fun hHeld => ?_)
                · first | assumption | exact ⟨blkc6 (t := 58) (Vku2.out), blkc6 (t := 58) (Vnu2.out)⟩
                clear hK K
                try simp only [Act.put, List.setIfInBounds_toArray, List.set_cons_zero, List.set_cons_succ]
                obtain ⟨la, lc, x3, HRUN, HOWN, HGROW⟩ := appendSr w.heap.size (.slice va l.length vc) l ⟨k.s, n.n, atM k, atM n⟩ u2 HO2.out (by have := hbb2.out.size; omega) (by have := htot.out; omega)
                refine wpAnyH_take (i := 10) (v := ?_) rfl (by kernel_rfl) (by kernel_rfl) (by kernel_rfl) (fun _ _ _ h => h) (Or.inl ⟨by rfl, ?_⟩) (by assumption) ?_
                rotate_left
                · (intro w hSw; (try dsimp only at hSw); go_simp; (try with_reducible rfl))
                try simp only [Act.put, List.setIfInBounds_toArray, List.set_cons_zero, List.set_cons_succ]
                refine wpAnyH_ready (rs := [1, 11]) (by kernel_rfl) (by simp) ?_
                refine AllReadyH.cons rfl (fun K hK => ?_) ?_
                · go_simp
                  refine hK.out _ _ ?_ (fun hHeld => ?_)
                  · first | assumption | exact ⟨blkc6 (t := 58) (Vku2.out), blkc6 (t := 58) (Vnu2.out)⟩
                  clear hK K
                  try simp only [Act.put, List.setIfInBounds_toArray, List.set_cons_zero, List.set_cons_succ]
                  refine wpAnyH_ready (rs := [11]) (by kernel_rfl) (by simp) ?_
                  refine AllReadyH.cons rfl (fun K hK => ?_) ?_
                  · go_simp
                    refine hK.out _ _ ?_ (fun hHeld => ?_)
                    · first | assumption | exact ⟨blkc6 (t := 58) (Vku2.out.kept (below_alloc _)), blkc6 (t := 58) (Vnu2.out.kept (below_alloc _))⟩
                    clear hK K
                    try simp only [Act.put, List.setIfInBounds_toArray, List.set_cons_zero, List.set_cons_succ]
                    refine wpAnyH_ready (rs := [12]) (by kernel_rfl) (by simp) ?_
                    refine AllReadyH.cons rfl (fun K hK => ?_) ?_
                    · refine step_append_ran rfl _ _ 72 72 rfl rfl _ _ (.slice la (l.length + 1) lc) x3 rfl rfl HRUN.out ?_
                      have Gs := hid (grow_blk HGROW.out HO2.out (Bs.kept HZ2.out) (by decide))
                      have Gq := hid (grow_blk HGROW.out HO2.out Vqu2.out (by decide))
                      have Gr4 := hid (grow_blk HGROW.out HO2.out (Br4.kept HZ2.out) (by decide))
                      have Gr5 := hid (grow_blk HGROW.out HO2.out (Br5.kept HZ2.out) (by decide))
                      have Gk := hid (grow_blk HGROW.out HO2.out Vku2.out (by decide))
                      have Gn := hid (grow_blk HGROW.out HO2.out Vnu2.out (by decide))
                      have Gx := hid (grow_blk HGROW.out HO2.out (Bx.kept HZ2.out) (by decide))
                      have gq3 := Gq.out.cellF
                      have gf3 := Gq.out.frz
                      have hs3 := HGROW.out.size
                      refine hK.out _ _ ?_ (fun hHeld => ?_)
                      · first | assumption | exact ⟨blkc6 (t := 58) (Gk.out), blkc6 (t := 58) (Gn.out)⟩
                      clear hK K
                      try simp only [Act.put, List.setIfInBounds_toArray, List.set_cons_zero, List.set_cons_succ]
                      refine wpAnyH_take (i := 13) (v := ?_) rfl (by kernel_rfl) (by kernel_rfl) (by kernel_rfl) (fun _ _ _ h => h) (Or.inl ⟨by rfl, ?_⟩) (by assumption) ?_
                      rotate_left
                      · (intro w hSw; (try dsimp only at hSw); go_simp; (try with_reducible rfl))
                      try simp only [Act.put, List.setIfInBounds_toArray, List.set_cons_zero, List.set_cons_succ]
                      refine wpAnyH_ready (rs := [14]) (by kernel_rfl) (by simp) ?_
                      refine AllReadyH.cons rfl (fun K hK => ?_) ?_
                      · go_simp
                        refine hK.out _ _ ?_ (fun hHeld => ?_)
                        · first | assumption | exact ⟨blkc6 (t := 58) (Gk.out.other (show v2.heap.size ≠ Q by omega) _), blkc6 (t := 58) (Gn.out.other (show v2.heap.size + 1 ≠ Q by omega) _)⟩
                        clear hK K
                        try simp only [Act.put, List.setIfInBounds_toArray, List.set_cons_zero, List.set_cons_succ]
                        refine wpAnyH_done (by kernel_rfl) ?_ _
                        have hkx : Keep (· < w.heap.size) u2 x3 := Keep.ofGrow HGROW.out (fun q hq e => by have := (own_type HO2.out e).1; omega)
                        have hbx : Hid (Below w.heap.size w x3) := hid (hbb2.out.trans (hkx.below hbb2.out.size (fun k hk => hk)))
                        have HO4 : Hid ((x3.setCell ⟨Q, 8, none⟩ (.slice la (l.length + 1) lc)).ownsRow w.heap.size 126 6 (.slice la (l.length + 1) lc) (l ++ [(⟨k.s, n.n, atM k, atM n⟩ : MS)]).length ((l ++ [(⟨k.s, n.n, atM k, atM n⟩ : MS)]).flatMap cS)) := hid (own_keep (f := (· ≠ Q)) HOWN.out (fun q hq (e : q = Q) => by obtain ⟨_, _, cur, hc⟩ := own_type HOWN.out hq; subst e; have h2 : x3.heap[q]? = _ := Gq.out; rw [h2] at hc; cases hc) (Keep.setCell _ _ _ (by simp)))
                        go_wp2_with fail
                        go_meet
                        exact ⟨la, lc, hid (by have := hbx.out; exact blBy), hid (by simp; omega), hid ((Gq.out.set 8 _).is (by simp)), hid (Gs.out.other (a := ⟨Q, 8, none⟩) (show w.heap.size ≠ Q by omega) _), hid (Gr4.out.other (a := ⟨Q, 8, none⟩) (show w.heap.size + 1 ≠ Q by omega) _), hid (Gr5.out.other (a := ⟨Q, 8, none⟩) (show w.heap.size + 1 + 1 ≠ Q by omega) _), hid (Gx.out.other (a := ⟨Q, 8, none⟩) (show v2.heap.size + 1 + 1 ≠ Q by omega) _), HO4⟩
                      exact AllReadyH.nil
                    exact AllReadyH.nil
                  exact AllReadyH.nil
                refine AllReadyH.cons rfl (fun K hK => ?_) ?_
                · go_simp
                  refine hK.out _ _ ?_ (fun hHeld => ?_)
                  · first | assumption | exact ⟨blkc6 (t := 58) (Vku2.out.kept (below_alloc _)), blkc6 (t := 58) (Vnu2.out.kept (below_alloc _))⟩
                  clear hK K
                  try simp only [Act.put, List.setIfInBounds_toArray, List.set_cons_zero, List.set_cons_succ]
                  refine wpAnyH_ready (rs := [1]) (by kernel_rfl) (by simp) ?_
                  refine AllReadyH.cons rfl (fun K hK => ?_) ?_
                  · go_simp
                    refine hK.out _ _ ?_ (fun hHeld => ?_)
                    · first | assumption | exact ⟨blkc6 (t := 58) (Vku2.out.kept (below_alloc _)), blkc6 (t := 58) (Vnu2.out.kept (below_alloc _))⟩
                    clear hK K
                    try simp only [Act.put, List.setIfInBounds_toArray, List.set_cons_zero, List.set_cons_succ]
                    refine wpAnyH_ready (rs := [12]) (by kernel_rfl) (by simp) ?_
                    refine AllReadyH.cons rfl (fun K hK => ?_) ?_
                    · refine step_append_ran rfl _ _ 72 72 rfl rfl _ _ (.slice la (l.length + 1) lc) x3 rfl rfl HRUN.out ?_
                      have Gs := hid (grow_blk HGROW.out HO2.out (Bs.kept HZ2.out) (by decide))
                      have Gq := hid (grow_blk HGROW.out HO2.out Vqu2.out (by decide))
                      have Gr4 := hid (grow_blk HGROW.out HO2.out (Br4.kept HZ2.out) (by decide))
                      have Gr5 := hid (grow_blk HGROW.out HO2.out (Br5.kept HZ2.out) (by decide))
                      have Gk := hid (grow_blk HGROW.out HO2.out Vku2.out (by decide))
                      have Gn := hid (grow_blk HGROW.out HO2.out Vnu2.out (by decide))
                      have Gx := hid (grow_blk HGROW.out HO2.out (Bx.kept HZ2.out) (by decide))
                      have gq3 := Gq.out.cellF
                      have gf3 := Gq.out.frz
                      have hs3 := HGROW.out.size
                      refine hK.out _ _ ?_ (fun hHeld => ?_)
                      · first | assumption | exact ⟨blkc6 (t := 58) (Gk.out), blkc6 (t := 58) (Gn.out)⟩
                      clear hK K
                      try simp only [Act.put, List.setIfInBounds_toArray, List.set_cons_zero, List.set_cons_succ]
                      refine wpAnyH_take (i := 13) (v := ?_) rfl (by kernel_rfl) (by kernel_rfl) (by kernel_rfl) (fun _ _ _ h => h) (Or.inl ⟨by rfl, ?_⟩) (by assumption) ?_
                      rotate_left
                      · (intro w hSw; (try dsimp only at hSw); go_simp; (try with_reducible rfl))
                      try simp only [Act.put, List.setIfInBounds_toArray, List.set_cons_zero, List.set_cons_succ]
                      refine wpAnyH_ready (rs := [14]) (by kernel_rfl) (by simp) ?_
                      refine AllReadyH.cons rfl (fun K hK => ?_) ?_
                      · go_simp
                        refine hK.out _ _ ?_ (fun hHeld => ?_)
                        · first | assumption | exact ⟨blkc6 (t := 58) (Gk.out.other (show v2.heap.size ≠ Q by omega) _), blkc6 (t := 58) (Gn.out.other (show v2.heap.size + 1 ≠ Q by omega) _)⟩
                        clear hK K
                        try simp only [Act.put, List.setIfInBounds_toArray, List.set_cons_zero, List.set_cons_succ]
                        refine wpAnyH_done (by kernel_rfl) ?_ _
                        have hkx : Keep (· < w.heap.size) u2 x3 := Keep.ofGrow HGROW.out (fun q hq e => by have := (own_type HO2.out e).1; omega)
                        have hbx : Hid (Below w.heap.size w x3) := hid (hbb2.out.trans (hkx.below hbb2.out.size (fun k hk => hk)))
                        have HO4 : Hid ((x3.setCell ⟨Q, 8, none⟩ (.slice la (l.length + 1) lc)).ownsRow w.heap.size 126 6 (.slice la (l.length + 1) lc) (l ++ [(⟨k.s, n.n, atM k, atM n⟩ : MS)]).length ((l ++ [(⟨k.s, n.n, atM k, atM n⟩ : MS)]).flatMap cS)) := hid (own_keep (f := (· ≠ Q)) HOWN.out (fun q hq (e : q = Q) => by obtain ⟨_, _, cur, hc⟩ := own_type HOWN.out hq; subst e; have h2 : x3.heap[q]? = _ := Gq.out; rw [h2] at hc; cases hc) (Keep.setCell _ _ _ (by simp)))
                        go_wp2_with fail
                        go_meet
                        exact ⟨la, lc, hid (by have := hbx.out; exact blBy), hid (by simp; omega), hid ((Gq.out.set 8 _).is (by simp)), hid (Gs.out.other (a := ⟨Q, 8, none⟩) (show w.heap.size ≠ Q by omega) _), hid (Gr4.out.other (a := ⟨Q, 8, none⟩) (show w.heap.size + 1 ≠ Q by omega) _), hid (Gr5.out.other (a := ⟨Q, 8, none⟩) (show w.heap.size + 1 + 1 ≠ Q by omega) _), hid (Gx.out.other (a := ⟨Q, 8, none⟩) (show v2.heap.size + 1 + 1 ≠ Q by omega) _), HO4⟩
                      exact AllReadyH.nil
                    exact AllReadyH.nil
                  exact AllReadyH.nil
                exact AllReadyH.nil
              exact AllReadyH.nil
            exact AllReadyH.nil
          case rest =>
            obtain ⟨la, lc, hbc, hQc, CQ, CS, C4, C5, CX, HO4⟩ := hcut
            clear Bs xs zs Bq xq zq Br4 xr4 zr4 Br5 xr5 zr5 Bk xk zk Bn xn zn Bx xx zx yq
            have hQc := hQc.out
            have gx := CX.out.cellF
            have gxl := CX.out.lt
            have gs := CS.out.cellF
            have gsl := CS.out.lt
            go_wp2_with fail
            refine (eatR w0 b o4 c4 t4 _ ⟨#[59]⟩ [59] rfl (by decide) hst4.out (bl_then HB.out hbc.out)).mono ?_
            rintro e u5 ⟨⟨t5, o5, c5, he5, rfl, hst5⟩, hb5⟩
            have HSY : Hid (symM t = ((⟨k.s, n.n, atM k, atM n⟩ : MS), t5)) := hid (by unfold symM; rw [← hk.out, ← hn.out, ← he4.out, ← he5.out])
            have Fs : Blk u5 (w.heap.size) 54 #[.slice (some ⟨b, o, none⟩) t.l.length c, .int .i64 t.cd, .int .i64 0, .int .i64 t.ln, .int .i64 t.cl] := CS.out.kept hb5
            have Fq : Blk u5 Q 74 #[.bool true, .string (strOfNums m.s), .int .i64 m.line, .int .i64 m.col, .slice none 0 0, .slice none 0 0, .slice none 0 0, .slice none 0 0, .slice la (l.length + 1) lc] := CQ.out.kept hb5
            have Fr4 : Blk u5 (w.heap.size + 1) 74 #[.bool false, .string ⟨#[]⟩, .int .i64 0, .int .i64 0, .slice none 0 0, .slice none 0 0, .slice none 0 0, .slice none 0 0, .slice none 0 0] := C4.out.kept hb5
            have Fr5 : Blk u5 (w.heap.size + 1 + 1) 54 #[.slice none 0 0, .int .i64 0, .int .i64 0, .int .i64 0, .int .i64 0] := C5.out.kept hb5
            have HO5 := hid (own_kept HO4.out hb5)
            have hB5 : Hid (Below w.heap.size w u5) := hid (bl_then hbc.out hb5)
            have hs5 := hb5.size
            clear hb5
            replace hst5 := hid hst5
            have fs := Fs.cellF
            have fy := Fs.frz
            have fz := Fs.lt
            go_wp2
            exact ⟨⟨l ++ [(⟨k.s, n.n, atM k, atM n⟩ : MS)], t5, o5, c5, .slice la (l.length + 1) lc, hid (by rw [hsy.out, HSG.out, HSY.out]), hst5, hid (by have := hB5.out; exact blBy), hid (by simp; omega), hid (blkall5 Fs), hid (blkoth5 Fq (show Q ≠ w.heap.size by omega)), hid (blkoth5 Fr4 (show w.heap.size + 1 ≠ w.heap.size by omega)), hid (blkoth5 Fr5 (show w.heap.size + 1 + 1 ≠ w.heap.size by omega)), hid (own_keep (f := (· ≠ w.heap.size)) HO5.out (fun q hq (e : q = w.heap.size) => by obtain ⟨_, _, cur, hc⟩ := own_type HO5.out hq; subst e; have h2 : u5.heap[w.heap.size]? = _ := Fs; rw [h2] at hc; cases hc) (by exact kpBy)), hid (by have h1 := htot.out; have h2 := HLT.out; rw [HSY.out] at h2; dsimp only at h2; simp; omega)⟩, by rw [hm0, muW_is (blkall5 Fs)]; have h2 := HLT.out; rw [HSY.out] at h2; exact h2⟩
      · have k3 : (t.cd == 0) = false := by simpa using hcd
        have HSS := hid (symL_bad hcd l)
        replace hcd := hid hcd
        have HOk := HOW
        go_wp2_with fail
        go_region_held3 (fun W => (W.cell? ⟨Q, 0, none⟩ = some (.bool true) ∧ W.cell? ⟨Q, 1, none⟩ = some (.string (strOfNums m.s)) ∧ W.cell? ⟨Q, 2, none⟩ = some (.int .i64 m.line) ∧ W.cell? ⟨Q, 3, none⟩ = some (.int .i64 m.col) ∧ W.cell? ⟨Q, 4, none⟩ = some (.slice none 0 0) ∧ W.cell? ⟨Q, 5, none⟩ = some (.slice none 0 0) ∧ W.cell? ⟨Q, 6, none⟩ = some (.slice none 0 0) ∧ W.cell? ⟨Q, 7, none⟩ = some (.slice none 0 0) ∧ W.cell? ⟨Q, 8, none⟩ = some (.slice va l.length vc)) ∧ (W.cell? ⟨w.heap.size, 0, none⟩ = some (.slice (some ⟨b, o, none⟩) t.l.length c) ∧ W.cell? ⟨w.heap.size, 1, none⟩ = some (.int .i64 t.cd) ∧ W.cell? ⟨w.heap.size, 2, none⟩ = some (.int .i64 0) ∧ W.cell? ⟨w.heap.size, 3, none⟩ = some (.int .i64 t.ln) ∧ W.cell? ⟨w.heap.size, 4, none⟩ = some (.int .i64 t.cl))) ((refine ⟨blkc9 (t := 74) ?_, blkc5 (t := 54) ?_⟩ <;> (with_reducible repeat (first | exact Vqu9.out | exact Vsu9.out | exact Bq | exact Bs | refine Blk.oth ?_ | refine Blk.kept ?_ (below_drew1 _) | refine Blk.kept ?_ (below_alloc _))); done)) (first | (go_at_call 18; refine (eatR w0 b o c t _ ⟨#[125]⟩ [125] rfl (by decide) hst.out (bl_then HB.out (by have := hb0.out; exact blBy))).mono ?_; rintro e u9 ⟨⟨s9, o9, c9, he9, rfl, hst9⟩, hbu⟩; have Vqu9 : Hid (Blk u9 (Q) 74 #[.bool true, .string (strOfNums m.s), .int .i64 m.line, .int .i64 m.col, .slice none 0 0, .slice none 0 0, .slice none 0 0, .slice none 0 0, .slice va l.length vc]) := hid (Blk.kept (by (with_reducible repeat (first | exact Bq | refine Blk.oth ?_ | refine Blk.kept ?_ (below_drew1 _) | refine Blk.kept ?_ (below_alloc _))); done) hbu); have Vsu9 : Hid (Blk u9 (w.heap.size) 54 #[.slice (some ⟨b, o, none⟩) t.l.length c, .int .i64 t.cd, .int .i64 0, .int .i64 t.ln, .int .i64 t.cl]) := hid (Blk.kept (by (with_reducible repeat (first | exact Bs | refine Blk.oth ?_ | refine Blk.kept ?_ (below_drew1 _) | refine Blk.kept ?_ (below_alloc _))); done) hbu); have Vr4u9 : Hid (Blk u9 (w.heap.size + 1) 74 #[.bool false, .string ⟨#[]⟩, .int .i64 0, .int .i64 0, .slice none 0 0, .slice none 0 0, .slice none 0 0, .slice none 0 0, .slice none 0 0]) := hid (Blk.kept (by (with_reducible repeat (first | exact Br4 | refine Blk.oth ?_ | refine Blk.kept ?_ (below_drew1 _) | refine Blk.kept ?_ (below_alloc _))); done) hbu); have Vr5u9 : Hid (Blk u9 (w.heap.size + 1 + 1) 54 #[.slice none 0 0, .int .i64 0, .int .i64 0, .int .i64 0, .int .i64 0]) := hid (Blk.kept (by (with_reducible repeat (first | exact Br5 | refine Blk.oth ?_ | refine Blk.kept ?_ (below_drew1 _) | refine Blk.kept ?_ (below_alloc _))); done) hbu); have vx4 := Vr4u9.out.cellF; have vy4 := Vr4u9.out.frz; have vx5 := Vr5u9.out.cellF; have vy5 := Vr5u9.out.frz; have HO9 : Hid (u9.ownsRow w.heap.size 126 6 (.slice va l.length vc) l.length (l.flatMap cS)) := hid (own_kept (own_kept HOk.out (below_drew1 _)) hbu); have hsu := hbu.size; (try simp at hsu); have hbb : Hid (Below w.heap.size w u9) := hid (bl_then (by have := hb0.out; exact blBy) hbu); replace hst9 := hid hst9; clear hbu))
        all_goals go_wp2
        all_goals exact bodyPost_ret (v := .tuple #[.agg #[.bool true, .string (strOfNums m.s), .int .i64 m.line, .int .i64 m.col, .slice none 0 0, .slice none 0 0, .slice none 0 0, .slice none 0 0, .slice va l.length vc], .agg #[.slice (some ⟨b, o9, none⟩) s9.l.length c9, .int .i64 s9.cd, .int .i64 0, .int .i64 s9.ln, .int .i64 s9.cl]]) (by simp [results, Tryz.results22, go_sem, vx4, vx5, zr4, zr5]) rfl ⟨⟨⟨⟨true, m.s, atM m, [], [], [], [], l⟩, .slice none 0 0, .slice none 0 0, .slice none 0 0, .slice none 0 0, .slice va l.length vc⟩, s9, o9, c9, hid (by rw [HEM.out]; simp only []; rw [hsy.out, HSS.out]), hid (by rw [HEM.out]; simp only []; rw [hsy.out, HSS.out]; exact he9.out), rfl, hid ⟨rowS_nil _ _ _, rowS_nil _ _ _, rowS_nil _ _ _, own_row (own_keep (f := fun k => k ≠ w.heap.size + 1 ∧ k ≠ w.heap.size + 1 + 1) HO9.out (fun q hq => ⟨fun e => (by obtain ⟨_, _, cur, hc⟩ := own_type HO9.out hq; subst e; have h2 : u9.heap[w.heap.size + 1]? = _ := Vr4u9.out; rw [h2] at hc; cases hc), fun e => (by obtain ⟨_, _, cur, hc⟩ := own_type HO9.out hq; subst e; have h2 : u9.heap[w.heap.size + 1 + 1]? = _ := Vr5u9.out; rw [h2] at hc; cases hc)⟩) (by exact kpBy)) (fun q hq => ⟨(own_type HO9.out hq).1, by have := (own_type HO9.out hq).2.1; simp; omega⟩), [], rfl, rowS_nil _ _ _, by simp⟩, hst9⟩, by have := hbb.out; exact blBy⟩
end
end Go.Proofs.YtidimdbnnnpplaaGreatDoor
