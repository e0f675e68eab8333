/-
  The document's member: ranges.
-/
import Derived.Test.YtidimdbnnnpplaaGreatDoorCRM0
import Derived.Deep.RegionHeld3
import Derived.Deep.CutRange
namespace Go.Proofs.YtidimdbnnnpplaaGreatDoor
open Go.RowKit
set_option maxRecDepth 1000000
set_option linter.unusedVariables false
set_option linter.unusedSimpArgs false
set_option maxHeartbeats 8000000
/-- What lies above may turn, too. -/
theorem Mem.far {w0 : World} {b : Nat} {ws : World} {base n : Nat} {wr w' : World} {o c o' c' : Nat} {s s' : PS} {x : DV} (h : Mem w0 b ws base n wr o c s x) (K : Keep (· ≠ ws.heap.size) wr w') (hs : StR w0 b o' c' s') (sb : Blk w' ws.heap.size 54 #[.slice (some ⟨b, o', none⟩) s'.l.length c', .int .i64 s'.cd, .int .i64 0, .int .i64 s'.ln, .int .i64 s'.cl]) : Mem w0 b ws base n w' o' c' s' x := by
  have hlo := h.lo
  exact ⟨hs, h.u0, h.hw, h.fr.trans (K.weak (fun k (hk : k < base) e => by omega)), sb, h.db.keep K (by omega), h.r6.keep K (by omega), h.r7.keep K (by omega), h.own.keep K (fun k _ hk e => hk ⟨by omega, by omega⟩), h.lo⟩
theorem rng_is {s : PS} {m : Mw} {t : PS} (h1 : m = (takeM s 2).1) (h2 : t = (takeM s 2).2) (hj : isM t wTo = false) : rngM s = (⟨m.n, m.n, atM m⟩, t) := by
  subst h1 h2
  unfold rngM
  rw [if_neg (by rw [hj]; decide)]
theorem rng_to {s : PS} {m k : Mw} {t u : PS} (h1 : m = (takeM s 2).1) (h2 : t = (takeM s 2).2) (hj : isM t wTo = true) (h3 : k = (takeM (eatM t wTo) 2).1) (h4 : u = (takeM (eatM t wTo) 2).2) : rngM s = (⟨m.n, k.n, atM m⟩, u) := by
  subst h1 h2 h3 h4
  unfold rngM
  rw [if_pos hj]
section
variable (w0 : World) (b off cap : Nat) (s : PS) (w : World) (base n : Nat)
theorem memR_res (x : DV) (depth : Int) (hi : isM s wReserved = true) (htot : tot x.d + 3 * muM s ≤ 300000) (h : StR w0 b off cap s) (hb : Below w0.heap.size w0 w) (hw : w0.heap.size ≤ base) (hlo : base ≤ w.heap.size) (ho : OwnD w base n 78 139 74 136 126 (fun _ => False) x) : Calls Tryz.prog 47 #[.agg #[.slice (some ⟨b, off, none⟩) s.l.length cap, .int .i64 s.cd, .int .i64 0, .int .i64 s.ln, .int .i64 s.cl], .agg #[.bool x.d.enum, .string (strOfNums x.d.name), .int .i64 x.d.at1.1, .int .i64 x.d.at1.2, x.f, x.o, x.dd, x.r, x.s], .int .i64 depth] w (MemR w0 b base n (resM x.d s) w) := by
  have HH := hid hi
  clear hi
  have HCD : Hid (s.cd = 0) := hid (is_parts HH.out).1
  obtain ⟨xd, xf, xo, xdd, xr, xs⟩ := x
  dsimp only at *
  obtain ⟨fa, fc, rfl⟩ : ∃ a c, xf = .slice a xd.fields.length c := own_shape ho.f
  obtain ⟨oa, oc, rfl⟩ : ∃ a c, xo = .slice a xd.oneofs.length c := own_shape ho.o
  obtain ⟨ra, rc, rfl⟩ : ∃ a c, xr = .slice a xd.res.length c := own_shape ho.r
  obtain ⟨ya, yc, rfl⟩ : ∃ a c, xs = .slice a xd.syms.length c := own_shape ho.s
  obtain ⟨da, dc, rfl⟩ : ∃ a c, xdd = .slice a xd.decls.length c := ho.ddS
  have HTT := hid htot
  have HLO := hid hlo
  have HB := hid hb
  have G0 := hid (Mem.start h hb hw ho hlo)
  dsimp only at G0
  clear h hb hw ho htot hlo
  go_enter Tryz.func47, Tryz.ntmps47
  go_wp2_with fail
  refine (isR w0 b off cap s _ ⟨#[109, 101, 115, 115, 97, 103, 101]⟩ wMessage rfl (by decide) G0.out.st G0.out.un).mono ?_
  rintro e w1 ⟨rfl, hb1⟩
  have G1 := hid (G0.out.kept hb1)
  have hs1 := hb1.size
  try simp at hs1
  clear hb1
  have c_s := G1.out.sb.cellF
  have f_s := G1.out.sb.frz
  have l_s := G1.out.sb.lt
  have c_d := G1.out.db.cellF
  have f_d := G1.out.db.frz
  have l_d := G1.out.db.lt
  have c_6 := G1.out.r6.cellF
  have f_6 := G1.out.r6.frz
  have l_6 := G1.out.r6.lt
  have c_7 := G1.out.r7.cellF
  have f_7 := G1.out.r7.frz
  have l_7 := G1.out.r7.lt
  rw [isR_other HH.out (by decide)]
  go_wp2_with fail
  refine (isR w0 b off cap s _ ⟨#[101, 110, 117, 109]⟩ wEnum rfl (by decide) G1.out.st G1.out.un).mono ?_
  rintro e w2 ⟨rfl, hb2⟩
  have G2 := hid (G1.out.kept hb2)
  have hs2 := hb2.size
  try simp at hs2
  clear hb2
  clear c_s f_s l_s c_d f_d l_d c_6 f_6 l_6 c_7 f_7 l_7
  have c_s := G2.out.sb.cellF
  have f_s := G2.out.sb.frz
  have l_s := G2.out.sb.lt
  have c_d := G2.out.db.cellF
  have f_d := G2.out.db.frz
  have l_d := G2.out.db.lt
  have c_6 := G2.out.r6.cellF
  have f_6 := G2.out.r6.frz
  have l_6 := G2.out.r6.lt
  have c_7 := G2.out.r7.cellF
  have f_7 := G2.out.r7.frz
  have l_7 := G2.out.r7.lt
  rw [isR_other HH.out (by decide)]
  go_wp2_with fail
  refine (isR w0 b off cap s _ ⟨#[111, 110, 101, 111, 102]⟩ wOneof rfl (by decide) G2.out.st G2.out.un).mono ?_
  rintro e w3 ⟨rfl, hb3⟩
  have G3 := hid (G2.out.kept hb3)
  have hs3 := hb3.size
  try simp at hs3
  clear hb3
  clear c_s f_s l_s c_d f_d l_d c_6 f_6 l_6 c_7 f_7 l_7
  have c_s := G3.out.sb.cellF
  have f_s := G3.out.sb.frz
  have l_s := G3.out.sb.lt
  have c_d := G3.out.db.cellF
  have f_d := G3.out.db.frz
  have l_d := G3.out.db.lt
  have c_6 := G3.out.r6.cellF
  have f_6 := G3.out.r6.frz
  have l_6 := G3.out.r6.lt
  have c_7 := G3.out.r7.cellF
  have f_7 := G3.out.r7.frz
  have l_7 := G3.out.r7.lt
  rw [isR_other HH.out (by decide)]
  go_wp2_with fail
  refine (isR w0 b off cap s _ ⟨#[114, 101, 115, 101, 114, 118, 101, 100]⟩ wReserved rfl (by decide) G3.out.st G3.out.un).mono ?_
  rintro e w4 ⟨rfl, hb4⟩
  have G4 := hid (G3.out.kept hb4)
  have hs4 := hb4.size
  try simp at hs4
  clear hb4
  clear c_s f_s l_s c_d f_d l_d c_6 f_6 l_6 c_7 f_7 l_7
  have c_s := G4.out.sb.cellF
  have f_s := G4.out.sb.frz
  have l_s := G4.out.sb.lt
  have c_d := G4.out.db.cellF
  have f_d := G4.out.db.frz
  have l_d := G4.out.db.lt
  have c_6 := G4.out.r6.cellF
  have f_6 := G4.out.r6.frz
  have l_6 := G4.out.r6.lt
  have c_7 := G4.out.r7.cellF
  have f_7 := G4.out.r7.frz
  have l_7 := G4.out.r7.lt
  rw [HH.out]
  go_wp2_with fail
  refine (eatR w0 b off cap s _ ⟨#[114, 101, 115, 101, 114, 118, 101, 100]⟩ wReserved rfl (by decide) G4.out.st G4.out.un).mono ?_
  rintro e w5 ⟨⟨s1, o1, c1, he1, rfl, hst1⟩, hb5⟩
  have G5 := hid (G4.out.kept hb5)
  have hs5 := hb5.size
  try simp at hs5
  clear hb5
  clear c_s f_s l_s c_d f_d l_d c_6 f_6 l_6 c_7 f_7 l_7
  have c_s := G5.out.sb.cellF
  have f_s := G5.out.sb.frz
  have l_s := G5.out.sb.lt
  have c_d := G5.out.db.cellF
  have f_d := G5.out.db.frz
  have l_d := G5.out.db.lt
  have c_6 := G5.out.r6.cellF
  have f_6 := G5.out.r6.frz
  have l_6 := G5.out.r6.lt
  have c_7 := G5.out.r7.cellF
  have f_7 := G5.out.r7.frz
  have l_7 := G5.out.r7.lt
  replace hst1 := hid hst1
  have GS5 := hid (G5.out.setS hst1.out)
  have HRB : Hid (rsB xd.res s = rngL (xd.res ++ [(rngM s1).1], (rngM s1).2)) := hid (by unfold rsB; rw [← he1.out])
  have HTB : Hid (xd.res.length + 3 * muM s1 ≤ 300000) := hid (by have h1 := HTT.out; have h2 : muM s1 ≤ muM s := (by rw [he1.out]; exact mu_eat _ _); unfold tot at h1; omega)
  go_wp2
  go_loopw [] (fun wr => ∃ l t o c va vc, Hid (rsB xd.res s = rngL (l ++ [(rngM t).1], (rngM t).2)) ∧ Hid (Mem w0 b w base n wr o c t ⟨{ xd with res := l }, .slice fa xd.fields.length fc, .slice oa xd.oneofs.length oc, .slice da xd.decls.length dc, .slice va l.length vc, .slice ya xd.syms.length yc⟩) ∧ Hid (l.length + 3 * muM t ≤ 300000)) (fun wr => muW wr w.heap.size)
  case atStart => exact ⟨xd.res, s1, o1, c1, ra, rc, HRB, hid (by have e : MD.mk xd.enum xd.name xd.at1 xd.fields xd.oneofs xd.decls xd.res xd.syms = xd := (by cases xd; rfl); rw [e]; exact GS5.out), HTB⟩
  case round =>
    clear c_s f_s l_s c_d f_d l_d c_6 f_6 l_6 c_7 f_7 l_7
    obtain ⟨l, t, o, c, va, vc, hrl, GR, htb⟩ := hrel
    have hm0 := muW_is GR.out.sb
    have c_s := GR.out.sb.cellF
    have f_s := GR.out.sb.frz
    have l_s := GR.out.sb.lt
    have c_d := GR.out.db.cellF
    have f_d := GR.out.db.frz
    have l_d := GR.out.db.lt
    have c_6 := GR.out.r6.cellF
    have f_6 := GR.out.r6.frz
    have l_6 := GR.out.r6.lt
    have c_7 := GR.out.r7.cellF
    have f_7 := GR.out.r7.frz
    have l_7 := GR.out.r7.lt
    go_wp2_with fail
    refine (takeR w0 b o c t _ 2 (by decide) (by decide) GR.out.st GR.out.un).mono ?_
    rintro e v1 ⟨⟨m, t1, sa, sc, o1, c1, hm, he, rfl, hr1, hok, hst⟩, hb1⟩
    have GV1 := hid (GR.out.kept hb1)
    have hs1 := hb1.size
    try simp at hs1
    clear hb1
    clear c_s f_s l_s c_d f_d l_d c_6 f_6 l_6 c_7 f_7 l_7
    have c_s := GV1.out.sb.cellF
    have f_s := GV1.out.sb.frz
    have l_s := GV1.out.sb.lt
    have c_d := GV1.out.db.cellF
    have f_d := GV1.out.db.frz
    have l_d := GV1.out.db.lt
    have c_6 := GV1.out.r6.cellF
    have f_6 := GV1.out.r6.frz
    have l_6 := GV1.out.r6.lt
    have c_7 := GV1.out.r7.cellF
    have f_7 := GV1.out.r7.frz
    have l_7 := GV1.out.r7.lt
    go_upto_region 22 with fail
    go_cut [18] from 109 to 148 (fun s18 wc => ∃ Q, s18 = .pointer (some ⟨Q, 0, none⟩) ∧ Hid (Below v1.heap.size v1 wc) ∧ Hid (v1.heap.size + 1 < Q ∧ Q < wc.heap.size) ∧ Hid (Blk wc Q 136 #[.int .u64 m.n, .int .u64 m.n, .int .i64 m.line, .int .i64 m.col]) ∧ Hid (Blk wc (v1.heap.size + 1) 54 #[.slice (some ⟨b, o1, none⟩) t1.l.length c1, .int .i64 t1.cd, .int .i64 0, .int .i64 t1.ln, .int .i64 t1.cl]))
    case first =>
      have Bm : Blk ((v1.alloc (.cells #[.int .i64 m.kind, .string (strOfNums m.s), .int .u64 m.n, .slice sa m.b.length sc, .int .i64 m.line, .int .i64 m.col] 58)).alloc (.cells #[.slice (some ⟨b, o1, none⟩) t1.l.length c1, .int .i64 t1.cd, .int .i64 0, .int .i64 t1.ln, .int .i64 t1.cl] 54)) (v1.heap.size) 58 #[.int .i64 m.kind, .string (strOfNums m.s), .int .u64 m.n, .slice sa m.b.length sc, .int .i64 m.line, .int .i64 m.col] := (Blk.newAt rfl).kept (below_alloc _)
      have Bx : Blk ((v1.alloc (.cells #[.int .i64 m.kind, .string (strOfNums m.s), .int .u64 m.n, .slice sa m.b.length sc, .int .i64 m.line, .int .i64 m.col] 58)).alloc (.cells #[.slice (some ⟨b, o1, none⟩) t1.l.length c1, .int .i64 t1.cd, .int .i64 0, .int .i64 t1.ln, .int .i64 t1.cl] 54)) (v1.heap.size + 1) 54 #[.slice (some ⟨b, o1, none⟩) t1.l.length c1, .int .i64 t1.cd, .int .i64 0, .int .i64 t1.ln, .int .i64 t1.cl] := Blk.newAt (by simp)
      have hbm : Hid (Below v1.heap.size v1 ((v1.alloc (.cells #[.int .i64 m.kind, .string (strOfNums m.s), .int .u64 m.n, .slice sa m.b.length sc, .int .i64 m.line, .int .i64 m.col] 58)).alloc (.cells #[.slice (some ⟨b, o1, none⟩) t1.l.length c1, .int .i64 t1.cd, .int .i64 0, .int .i64 t1.ln, .int .i64 t1.cl] 54))) := hid (below_twor _ _)
      have zwm : v1.heap.size + 1 < ((v1.alloc (.cells #[.int .i64 m.kind, .string (strOfNums m.s), .int .u64 m.n, .slice sa m.b.length sc, .int .i64 m.line, .int .i64 m.col] 58)).alloc (.cells #[.slice (some ⟨b, o1, none⟩) t1.l.length c1, .int .i64 t1.cd, .int .i64 0, .int .i64 t1.ln, .int .i64 t1.cl] 54)).heap.size := by simp
      clear c_s f_s l_s c_d f_d l_d c_6 f_6 l_6 c_7 f_7 l_7
      generalize ((v1.alloc (.cells #[.int .i64 m.kind, .string (strOfNums m.s), .int .u64 m.n, .slice sa m.b.length sc, .int .i64 m.line, .int .i64 m.col] 58)).alloc (.cells #[.slice (some ⟨b, o1, none⟩) t1.l.length c1, .int .i64 t1.cd, .int .i64 0, .int .i64 t1.ln, .int .i64 t1.cl] 54)) = wm at *
      have xm := Bm.cellF
      go_region_held3 (fun W => W.cell? ⟨v1.heap.size, 0, none⟩ = some (.int .i64 m.kind) ∧ W.cell? ⟨v1.heap.size, 1, none⟩ = some (.string (strOfNums m.s)) ∧ W.cell? ⟨v1.heap.size, 2, none⟩ = some (.int .u64 m.n) ∧ W.cell? ⟨v1.heap.size, 3, none⟩ = some (.slice sa m.b.length sc) ∧ W.cell? ⟨v1.heap.size, 4, none⟩ = some (.int .i64 m.line) ∧ W.cell? ⟨v1.heap.size, 5, none⟩ = some (.int .i64 m.col)) ((refine blkc6 (t := 58) ?_; (with_reducible repeat (first | exact Vm.out | exact Bm | refine Blk.oth ?_ | refine Blk.kept ?_ (below_drew1 _) | refine Blk.kept ?_ (below_alloc _))); done)) (first | (go_at_call 20; refine (atR _ m sa sc).mono ?_; rintro e u1 ⟨rfl, hbu⟩; have Vm : Hid (Blk u1 (v1.heap.size) 58 #[.int .i64 m.kind, .string (strOfNums m.s), .int .u64 m.n, .slice sa m.b.length sc, .int .i64 m.line, .int .i64 m.col]) := hid (Blk.kept (by (with_reducible repeat (first | exact Bm | refine Blk.oth ?_ | refine Blk.kept ?_ (below_drew1 _) | refine Blk.kept ?_ (below_alloc _))); done) hbu); have Vx : Hid (Blk u1 (v1.heap.size + 1) 54 #[.slice (some ⟨b, o1, none⟩) t1.l.length c1, .int .i64 t1.cd, .int .i64 0, .int .i64 t1.ln, .int .i64 t1.cl]) := hid (Blk.kept (by (with_reducible repeat (first | exact Bx | refine Blk.oth ?_ | refine Blk.kept ?_ (below_drew1 _) | refine Blk.kept ?_ (below_alloc _))); done) hbu); (try have X1 : Hid (Blk u1 wm.heap.size 136 #[.int .u64 0, .int .u64 0, .int .i64 0, .int .i64 0]) := hid (Blk.kept (by first | with_reducible exact (Blk.newAt (w := wm) rfl).kept (below_drew1 _) | with_reducible exact Blk.newAt (w := wm.drew) rfl) hbu)); (try have xx1 := X1.out.cellF); (try have xy1 := X1.out.frz); have hsu1 := hbu.size; (try simp at hsu1); have hbb1 : Hid (Below v1.heap.size v1 u1) := hid (bl_then (by have := hbm.out; exact blBy) hbu); clear hbu))
      all_goals (go_wp2_with fail; go_meet; first | (have hq := X1; exact ⟨wm.heap.size, rfl, hid (by have := hbb1.out; exact blBy), hid ⟨by omega, by first | (simp; done) | (simp; omega) | omega⟩, hid (((((X1.out.set 0 _).set 1 _).set 2 _).set 3 _).is (by simp)), hid (by (with_reducible repeat (first | exact Vx.out | refine Blk.oth ?_ | refine Blk.kept ?_ (below_drew1 _) | refine Blk.kept ?_ (below_alloc _))); done)⟩) | (exact ⟨u1.heap.size, rfl, hid (by have := hbb1.out; exact blBy), hid ⟨by omega, by first | (simp; done) | (simp; omega) | omega⟩, hid (Blk.newAt rfl), hid (by (with_reducible repeat (first | exact Vx.out | refine Blk.oth ?_ | refine Blk.kept ?_ (below_drew1 _) | refine Blk.kept ?_ (below_alloc _))); done)⟩))
    case rest =>
      obtain ⟨Q, rfl, hbc, hQ, BQ, BX⟩ := hcut
      have hQ1 := hQ.out.1
      have hQ2 := hQ.out.2
      have GC := hid (GV1.out.kept hbc.out)
      have HKc : Hid (Keep (· ≠ w.heap.size) v1 wc) := hid (Keep.ofBelow hbc.out)
      have hsc := hbc.out.size
      have lwv := GV1.out.sb.lt
      have c_q := BQ.out.cellF
      have f_q := BQ.out.frz
      have l_q := BQ.out.lt
      have c_x := BX.out.cellF
      have l_x := BX.out.lt
      clear c_s f_s l_s c_d f_d l_d c_6 f_6 l_6 c_7 f_7 l_7
      have c_s := GC.out.sb.cellF
      have f_s := GC.out.sb.frz
      have l_s := GC.out.sb.lt
      have c_d := GC.out.db.cellF
      have f_d := GC.out.db.frz
      have l_d := GC.out.db.lt
      have c_6 := GC.out.r6.cellF
      have f_6 := GC.out.r6.frz
      have l_6 := GC.out.r6.lt
      have c_7 := GC.out.r7.cellF
      have f_7 := GC.out.r7.frz
      have l_7 := GC.out.r7.lt
      have GS := hid (GC.out.setS hst.out)
      cases hj : isM t1 wTo with
      | false =>
        go_wp2_with fail
        refine (isR w0 b o1 c1 t1 _ ⟨#[116, 111]⟩ wTo rfl (by decide) hst.out GS.out.un).mono ?_
        rintro e v2 ⟨rfl, hbx⟩
        have GV2 := hid (GS.out.kept hbx)
        have hs2 := hbx.size
        try simp at hs2
        have Bq2 : Blk v2 Q 136 #[.int .u64 m.n, .int .u64 m.n, .int .i64 m.line, .int .i64 m.col] := (blkoth5 BQ.out (show Q ≠ w.heap.size by omega)).kept hbx
        clear hbx
        clear c_s f_s l_s c_d f_d l_d c_6 f_6 l_6 c_7 f_7 l_7
        have c_s := GV2.out.sb.cellF
        have f_s := GV2.out.sb.frz
        have l_s := GV2.out.sb.lt
        have c_d := GV2.out.db.cellF
        have f_d := GV2.out.db.frz
        have l_d := GV2.out.db.lt
        have c_6 := GV2.out.r6.cellF
        have f_6 := GV2.out.r6.frz
        have l_6 := GV2.out.r6.lt
        have c_7 := GV2.out.r7.cellF
        have f_7 := GV2.out.r7.frz
        have l_7 := GV2.out.r7.lt
        rw [hj]
        clear c_q f_q l_q c_x l_x BQ BX
        have c_q := Bq2.cellF
        have f_q := Bq2.frz
        have l_q := Bq2.lt
        have HRG : Hid (rngM t = (⟨m.n, m.n, atM m⟩, t1)) := hid (rng_is hm.out he.out hj)
        obtain ⟨la, lc, x3, HRUN, HGR, HB3, G3⟩ := GV2.out.moreR rfl (by have := htb.out; dsimp only; omega) ⟨m.n, m.n, atM m⟩
        dsimp only [atM] at HRUN HGR HB3 G3
        have c_3 := HB3.out.cellF
        have f_3 := HB3.out.frz
        have l_3 := HB3.out.lt
        go_upto_region 30 with (first | (at_builtin; refine wpList_append_ran rfl _ _ 71 71 rfl rfl _ _ (.slice la (l.length + 1) lc) x3 rfl rfl HRUN.out ?_))
        clear c_3 f_3 l_3 HB3 HRUN HGR c_q f_q l_q c_s f_s l_s c_d f_d l_d c_6 f_6 l_6 c_7 f_7 l_7
        generalize (x3.setCell ⟨w.heap.size + 1, 7, none⟩ (.slice la (l.length + 1) lc)) = x4 at *
        have c_s := G3.out.sb.cellF
        have f_s := G3.out.sb.frz
        have l_s := G3.out.sb.lt
        have c_d := G3.out.db.cellF
        have f_d := G3.out.db.frz
        have l_d := G3.out.db.lt
        have c_6 := G3.out.r6.cellF
        have f_6 := G3.out.r6.frz
        have l_6 := G3.out.r6.lt
        have c_7 := G3.out.r7.cellF
        have f_7 := G3.out.r7.frz
        have l_7 := G3.out.r7.lt
        cases hk : isM t1 [44] with
        | true =>
          go_wp2_with fail
          refine (isR w0 b o1 c1 t1 _ ⟨#[44]⟩ [44] rfl (by decide) G3.out.st G3.out.un).mono ?_
          rintro e y1 ⟨rfl, hy1⟩
          have GY1 := hid (G3.out.kept hy1)
          have hz1 := hy1.size
          try simp at hz1
          clear hy1
          clear c_s f_s l_s c_d f_d l_d c_6 f_6 l_6 c_7 f_7 l_7
          have c_s := GY1.out.sb.cellF
          have f_s := GY1.out.sb.frz
          have l_s := GY1.out.sb.lt
          have c_d := GY1.out.db.cellF
          have f_d := GY1.out.db.frz
          have l_d := GY1.out.db.lt
          have c_6 := GY1.out.r6.cellF
          have f_6 := GY1.out.r6.frz
          have l_6 := GY1.out.r6.lt
          have c_7 := GY1.out.r7.cellF
          have f_7 := GY1.out.r7.frz
          have l_7 := GY1.out.r7.lt
          rw [hk]
          go_wp2_with fail
          refine (eatR w0 b o1 c1 t1 _ ⟨#[44]⟩ [44] rfl (by decide) G3.out.st GY1.out.un).mono ?_
          rintro e y2 ⟨⟨s9, o9, c9, he9, rfl, hst9⟩, hy2⟩
          have GY2 := hid (GY1.out.kept hy2)
          have hz2 := hy2.size
          try simp at hz2
          clear hy2
          clear c_s f_s l_s c_d f_d l_d c_6 f_6 l_6 c_7 f_7 l_7
          have c_s := GY2.out.sb.cellF
          have f_s := GY2.out.sb.frz
          have l_s := GY2.out.sb.lt
          have c_d := GY2.out.db.cellF
          have f_d := GY2.out.db.frz
          have l_d := GY2.out.db.lt
          have c_6 := GY2.out.r6.cellF
          have f_6 := GY2.out.r6.frz
          have l_6 := GY2.out.r6.lt
          have c_7 := GY2.out.r7.cellF
          have f_7 := GY2.out.r7.frz
          have l_7 := GY2.out.r7.lt
          replace hst9 := hid hst9
          have GL := hid (GY2.out.setS hst9.out)
          have HLT : Hid (muM s9 < muM t) := hid (by rw [he9.out]; have h1 := mu_eat_lt (is_parts hk).1 [44]; have h2 := mu_rng t; rw [HRG.out] at h2; dsimp only at h2; omega)
          go_wp2
          exact ⟨⟨l ++ [⟨m.n, m.n, (m.line, m.col)⟩], s9, o9, c9, la, lc, hid (by rw [hrl.out, HRG.out]; dsimp only [atM]; rw [rngLr_go hk, ← he9.out]), hid (by have := GL.out; rw [List.length_append]; exact this), hid (by have h1 := htb.out; have h2 := HLT.out; simp; omega)⟩, by rw [hm0, muW_is GL.out.sb]; exact HLT.out⟩
        | false =>
          go_wp2_with fail
          refine (isR w0 b o1 c1 t1 _ ⟨#[44]⟩ [44] rfl (by decide) G3.out.st G3.out.un).mono ?_
          rintro e y1 ⟨rfl, hy1⟩
          have GY1 := hid (G3.out.kept hy1)
          have hz1 := hy1.size
          try simp at hz1
          clear hy1
          clear c_s f_s l_s c_d f_d l_d c_6 f_6 l_6 c_7 f_7 l_7
          have c_s := GY1.out.sb.cellF
          have f_s := GY1.out.sb.frz
          have l_s := GY1.out.sb.lt
          have c_d := GY1.out.db.cellF
          have f_d := GY1.out.db.frz
          have l_d := GY1.out.db.lt
          have c_6 := GY1.out.r6.cellF
          have f_6 := GY1.out.r6.frz
          have l_6 := GY1.out.r6.lt
          have c_7 := GY1.out.r7.cellF
          have f_7 := GY1.out.r7.frz
          have l_7 := GY1.out.r7.lt
          rw [hk]
          go_wp2_with fail
          have Bd : Blk y1 (w.heap.size + 1) 74 #[.bool xd.enum, .string (strOfNums xd.name), .int .i64 xd.at1.1, .int .i64 xd.at1.2, .slice fa xd.fields.length fc, .slice oa xd.oneofs.length oc, .slice da xd.decls.length dc, .slice la (l.length + 1) lc, .slice ya xd.syms.length yc] := GY1.out.db
          have Bs : Blk y1 w.heap.size 54 #[.slice (some ⟨b, o1, none⟩) t1.l.length c1, .int .i64 t1.cd, .int .i64 0, .int .i64 t1.ln, .int .i64 t1.cl] := GY1.out.sb
          go_region_held3 (fun W => (W.cell? ⟨w.heap.size + 1, 0, none⟩ = some (.bool xd.enum) ∧ W.cell? ⟨w.heap.size + 1, 1, none⟩ = some (.string (strOfNums xd.name)) ∧ W.cell? ⟨w.heap.size + 1, 2, none⟩ = some (.int .i64 xd.at1.1) ∧ W.cell? ⟨w.heap.size + 1, 3, none⟩ = some (.int .i64 xd.at1.2) ∧ W.cell? ⟨w.heap.size + 1, 4, none⟩ = some (.slice fa xd.fields.length fc) ∧ W.cell? ⟨w.heap.size + 1, 5, none⟩ = some (.slice oa xd.oneofs.length oc) ∧ W.cell? ⟨w.heap.size + 1, 6, none⟩ = some (.slice da xd.decls.length dc) ∧ W.cell? ⟨w.heap.size + 1, 7, none⟩ = some (.slice la (l.length + 1) lc) ∧ W.cell? ⟨w.heap.size + 1, 8, none⟩ = some (.slice ya xd.syms.length yc)) ∧ (W.cell? ⟨w.heap.size, 0, none⟩ = some (.slice (some ⟨b, o1, none⟩) t1.l.length c1) ∧ W.cell? ⟨w.heap.size, 1, none⟩ = some (.int .i64 t1.cd) ∧ W.cell? ⟨w.heap.size, 2, none⟩ = some (.int .i64 0) ∧ W.cell? ⟨w.heap.size, 3, none⟩ = some (.int .i64 t1.ln) ∧ W.cell? ⟨w.heap.size, 4, none⟩ = some (.int .i64 t1.cl))) ((refine ⟨blkc9 (t := 74) ?_, blkc5 (t := 54) ?_⟩ <;> (with_reducible repeat (first | exact Vd.out | exact Vs.out | exact Bd | exact Bs | refine Blk.oth ?_ | refine Blk.kept ?_ (below_drew1 _) | refine Blk.kept ?_ (below_alloc _))); done)) (first | (go_at_call 18; refine (eatR w0 b o1 c1 t1 _ ⟨#[59]⟩ [59] rfl (by decide) GY1.out.st (bl_then GY1.out.un (by exact blBy))).mono ?_; rintro e u9 ⟨⟨s9, o9, c9, he9, rfl, hst9⟩, hbu⟩; have G9 := hid (GY1.out.kept (bl_then (by exact blBy) hbu)); have Vd : Hid (Blk u9 (w.heap.size + 1) 74 #[.bool xd.enum, .string (strOfNums xd.name), .int .i64 xd.at1.1, .int .i64 xd.at1.2, .slice fa xd.fields.length fc, .slice oa xd.oneofs.length oc, .slice da xd.decls.length dc, .slice la (l.length + 1) lc, .slice ya xd.syms.length yc]) := hid G9.out.db; have Vs : Hid (Blk u9 w.heap.size 54 #[.slice (some ⟨b, o1, none⟩) t1.l.length c1, .int .i64 t1.cd, .int .i64 0, .int .i64 t1.ln, .int .i64 t1.cl]) := hid G9.out.sb; have vx6 := G9.out.r6.cellF; have vy6 := G9.out.r6.frz; have vl6 := G9.out.r6.lt; have vx7 := G9.out.r7.cellF; have vy7 := G9.out.r7.frz; have vl7 := G9.out.r7.lt; have hsu := hbu.size; (try simp at hsu); replace hst9 := hid hst9; clear hbu))
          all_goals go_wp2
          all_goals exact bodyPost_ret (v := .tuple #[.agg #[.bool xd.enum, .string (strOfNums xd.name), .int .i64 xd.at1.1, .int .i64 xd.at1.2, .slice fa xd.fields.length fc, .slice oa xd.oneofs.length oc, .slice da xd.decls.length dc, .slice la (l.length + 1) lc, .slice ya xd.syms.length yc], .agg #[.slice (some ⟨b, o9, none⟩) s9.l.length c9, .int .i64 s9.cd, .int .i64 0, .int .i64 s9.ln, .int .i64 s9.cl]]) (by simp [results, Tryz.results47, go_sem, vx6, vx7, vl6, vl7]) rfl (MemR.is _ s9 o9 c9 (hid (by unfold resM; dsimp only; rw [hrl.out, HRG.out]; dsimp only [atM]; rw [rngLr_stop hk])) (hid (by unfold resM; dsimp only; rw [hrl.out, HRG.out]; dsimp only; rw [rngLr_stop hk]; exact he9.out)) rfl (G9.out.fin (by exact kpBy)).1 hst9 (G9.out.fin (by exact kpBy)).2)
      | true =>
        go_wp2_with fail
        refine (isR w0 b o1 c1 t1 _ ⟨#[116, 111]⟩ wTo rfl (by decide) hst.out GS.out.un).mono ?_
        rintro e v2 ⟨rfl, hbx⟩
        have GV2 := hid (GS.out.kept hbx)
        have hs2 := hbx.size
        try simp at hs2
        have Bq2 : Blk v2 Q 136 #[.int .u64 m.n, .int .u64 m.n, .int .i64 m.line, .int .i64 m.col] := (blkoth5 BQ.out (show Q ≠ w.heap.size by omega)).kept hbx
        have HK2 : Hid (Keep (· ≠ w.heap.size) v1 v2) := hid (Keep.trans (by have := HKc.out; exact kpBy) (Keep.ofBelow hbx))
        clear hbx
        clear c_s f_s l_s c_d f_d l_d c_6 f_6 l_6 c_7 f_7 l_7
        have c_s := GV2.out.sb.cellF
        have f_s := GV2.out.sb.frz
        have l_s := GV2.out.sb.lt
        have c_d := GV2.out.db.cellF
        have f_d := GV2.out.db.frz
        have l_d := GV2.out.db.lt
        have c_6 := GV2.out.r6.cellF
        have f_6 := GV2.out.r6.frz
        have l_6 := GV2.out.r6.lt
        have c_7 := GV2.out.r7.cellF
        have f_7 := GV2.out.r7.frz
        have l_7 := GV2.out.r7.lt
        rw [hj]
        go_wp2_with fail
        refine (eatR w0 b o1 c1 t1 _ ⟨#[116, 111]⟩ wTo rfl (by decide) hst.out GV2.out.un).mono ?_
        rintro e v3 ⟨⟨t2, o2, c2, he2, rfl, hst2⟩, hbx⟩
        have GV3 := hid (GV2.out.kept hbx)
        have hs3 := hbx.size
        try simp at hs3
        have Bq3 : Blk v3 Q 136 #[.int .u64 m.n, .int .u64 m.n, .int .i64 m.line, .int .i64 m.col] := Bq2.kept hbx
        have HK3 : Hid (Keep (· ≠ w.heap.size) v1 v3) := hid (Keep.trans HK2.out (Keep.ofBelow hbx))
        clear hbx
        clear c_s f_s l_s c_d f_d l_d c_6 f_6 l_6 c_7 f_7 l_7
        have c_s := GV3.out.sb.cellF
        have f_s := GV3.out.sb.frz
        have l_s := GV3.out.sb.lt
        have c_d := GV3.out.db.cellF
        have f_d := GV3.out.db.frz
        have l_d := GV3.out.db.lt
        have c_6 := GV3.out.r6.cellF
        have f_6 := GV3.out.r6.frz
        have l_6 := GV3.out.r6.lt
        have c_7 := GV3.out.r7.cellF
        have f_7 := GV3.out.r7.frz
        have l_7 := GV3.out.r7.lt
        replace hst2 := hid hst2
        have GS3 := hid (GV3.out.setS hst2.out)
        go_wp2_with fail
        refine (takeR w0 b o2 c2 t2 _ 2 (by decide) (by decide) hst2.out GS3.out.un).mono ?_
        rintro e v4 ⟨⟨k, t3, ka, kc, o3, c3, hk3, he3, rfl, hr3, hok3, hst3⟩, hbx⟩
        have GV4 := hid (GS3.out.kept hbx)
        have hs4 := hbx.size
        try simp at hs4
        have Bq4 : Blk v4 Q 136 #[.int .u64 m.n, .int .u64 m.n, .int .i64 m.line, .int .i64 m.col] := (blkoth5 Bq3 (show Q ≠ w.heap.size by omega)).kept hbx
        have HK4 : Hid (Keep (· ≠ w.heap.size) v1 v4) := hid (Keep.trans (by have := HK3.out; exact kpBy) (Keep.ofBelow hbx))
        clear hbx
        clear c_s f_s l_s c_d f_d l_d c_6 f_6 l_6 c_7 f_7 l_7
        have c_s := GV4.out.sb.cellF
        have f_s := GV4.out.sb.frz
        have l_s := GV4.out.sb.lt
        have c_d := GV4.out.db.cellF
        have f_d := GV4.out.db.frz
        have l_d := GV4.out.db.lt
        have c_6 := GV4.out.r6.cellF
        have f_6 := GV4.out.r6.frz
        have l_6 := GV4.out.r6.lt
        have c_7 := GV4.out.r7.cellF
        have f_7 := GV4.out.r7.frz
        have l_7 := GV4.out.r7.lt
        clear c_q f_q l_q c_x l_x BQ BX Bq2 Bq3
        have c_q := Bq4.cellF
        have f_q := Bq4.frz
        have l_q := Bq4.lt
        go_upto_region 29 with fail
        have HKZ : Keep (· ≠ w.heap.size) v1 ((((((((v4.setCell ⟨Q, 1, none⟩ (.int .u64 k.n)).setCell ⟨w.heap.size, 0, none⟩ (.slice (some ⟨b, o3, none⟩) t3.l.length c3)).setCell ⟨w.heap.size, 1, none⟩ (.int .i64 t3.cd)).setCell ⟨w.heap.size, 2, none⟩ (.int .i64 0)).setCell ⟨w.heap.size, 3, none⟩ (.int .i64 t3.ln)).setCell ⟨w.heap.size, 4, none⟩ (.int .i64 t3.cl)).alloc (.cells #[.int .i64 k.kind, .string (strOfNums k.s), .int .u64 k.n, .slice ka k.b.length kc, .int .i64 k.line, .int .i64 k.col] 58)).alloc (.cells #[.slice (some ⟨b, o3, none⟩) t3.l.length c3, .int .i64 t3.cd, .int .i64 0, .int .i64 t3.ln, .int .i64 t3.cl] 54)) := by have := HK4.out; exact kpBy
        have BsZ : Blk ((((((((v4.setCell ⟨Q, 1, none⟩ (.int .u64 k.n)).setCell ⟨w.heap.size, 0, none⟩ (.slice (some ⟨b, o3, none⟩) t3.l.length c3)).setCell ⟨w.heap.size, 1, none⟩ (.int .i64 t3.cd)).setCell ⟨w.heap.size, 2, none⟩ (.int .i64 0)).setCell ⟨w.heap.size, 3, none⟩ (.int .i64 t3.ln)).setCell ⟨w.heap.size, 4, none⟩ (.int .i64 t3.cl)).alloc (.cells #[.int .i64 k.kind, .string (strOfNums k.s), .int .u64 k.n, .slice ka k.b.length kc, .int .i64 k.line, .int .i64 k.col] 58)).alloc (.cells #[.slice (some ⟨b, o3, none⟩) t3.l.length c3, .int .i64 t3.cd, .int .i64 0, .int .i64 t3.ln, .int .i64 t3.cl] 54)) w.heap.size 54 #[.slice (some ⟨b, o3, none⟩) t3.l.length c3, .int .i64 t3.cd, .int .i64 0, .int .i64 t3.ln, .int .i64 t3.cl] := ((blkall5 (GV4.out.sb.other (show w.heap.size ≠ Q by omega) _)).kept (below_alloc _)).kept (below_alloc _)
        have GZ := hid (GV1.out.far HKZ hst3.out BsZ)
        have BqZ : Blk ((((((((v4.setCell ⟨Q, 1, none⟩ (.int .u64 k.n)).setCell ⟨w.heap.size, 0, none⟩ (.slice (some ⟨b, o3, none⟩) t3.l.length c3)).setCell ⟨w.heap.size, 1, none⟩ (.int .i64 t3.cd)).setCell ⟨w.heap.size, 2, none⟩ (.int .i64 0)).setCell ⟨w.heap.size, 3, none⟩ (.int .i64 t3.ln)).setCell ⟨w.heap.size, 4, none⟩ (.int .i64 t3.cl)).alloc (.cells #[.int .i64 k.kind, .string (strOfNums k.s), .int .u64 k.n, .slice ka k.b.length kc, .int .i64 k.line, .int .i64 k.col] 58)).alloc (.cells #[.slice (some ⟨b, o3, none⟩) t3.l.length c3, .int .i64 t3.cd, .int .i64 0, .int .i64 t3.ln, .int .i64 t3.cl] 54)) Q 136 #[.int .u64 m.n, .int .u64 k.n, .int .i64 m.line, .int .i64 m.col] := ((blkoth5 ((Bq4.set 1 _).is (by simp)) (show Q ≠ w.heap.size by omega)).kept (below_alloc _)).kept (below_alloc _)
        clear HKZ BsZ c_q f_q l_q c_s f_s l_s c_d f_d l_d c_6 f_6 l_6 c_7 f_7 l_7 Bq4
        generalize ((((((((v4.setCell ⟨Q, 1, none⟩ (.int .u64 k.n)).setCell ⟨w.heap.size, 0, none⟩ (.slice (some ⟨b, o3, none⟩) t3.l.length c3)).setCell ⟨w.heap.size, 1, none⟩ (.int .i64 t3.cd)).setCell ⟨w.heap.size, 2, none⟩ (.int .i64 0)).setCell ⟨w.heap.size, 3, none⟩ (.int .i64 t3.ln)).setCell ⟨w.heap.size, 4, none⟩ (.int .i64 t3.cl)).alloc (.cells #[.int .i64 k.kind, .string (strOfNums k.s), .int .u64 k.n, .slice ka k.b.length kc, .int .i64 k.line, .int .i64 k.col] 58)).alloc (.cells #[.slice (some ⟨b, o3, none⟩) t3.l.length c3, .int .i64 t3.cd, .int .i64 0, .int .i64 t3.ln, .int .i64 t3.cl] 54)) = wz at *
        have c_s := GZ.out.sb.cellF
        have f_s := GZ.out.sb.frz
        have l_s := GZ.out.sb.lt
        have c_d := GZ.out.db.cellF
        have f_d := GZ.out.db.frz
        have l_d := GZ.out.db.lt
        have c_6 := GZ.out.r6.cellF
        have f_6 := GZ.out.r6.frz
        have l_6 := GZ.out.r6.lt
        have c_7 := GZ.out.r7.cellF
        have f_7 := GZ.out.r7.frz
        have l_7 := GZ.out.r7.lt
        have c_q := BqZ.cellF
        have f_q := BqZ.frz
        have l_q := BqZ.lt
        have HRG : Hid (rngM t = (⟨m.n, k.n, atM m⟩, t3)) := hid (rng_to hm.out he.out hj (by rw [← he2.out]; exact hk3.out) (by rw [← he2.out]; exact he3.out))
        obtain ⟨la, lc, x3, HRUN, HGR, HB3, G3⟩ := GZ.out.moreR rfl (by have := htb.out; dsimp only; omega) ⟨m.n, k.n, atM m⟩
        dsimp only [atM] at HRUN HGR HB3 G3
        have c_3 := HB3.out.cellF
        have f_3 := HB3.out.frz
        have l_3 := HB3.out.lt
        go_upto_region 30 with (first | (at_builtin; refine wpList_append_ran rfl _ _ 71 71 rfl rfl _ _ (.slice la (l.length + 1) lc) x3 rfl rfl HRUN.out ?_))
        clear c_3 f_3 l_3 HB3 HRUN HGR c_q f_q l_q c_s f_s l_s c_d f_d l_d c_6 f_6 l_6 c_7 f_7 l_7
        generalize (x3.setCell ⟨w.heap.size + 1, 7, none⟩ (.slice la (l.length + 1) lc)) = x4 at *
        have c_s := G3.out.sb.cellF
        have f_s := G3.out.sb.frz
        have l_s := G3.out.sb.lt
        have c_d := G3.out.db.cellF
        have f_d := G3.out.db.frz
        have l_d := G3.out.db.lt
        have c_6 := G3.out.r6.cellF
        have f_6 := G3.out.r6.frz
        have l_6 := G3.out.r6.lt
        have c_7 := G3.out.r7.cellF
        have f_7 := G3.out.r7.frz
        have l_7 := G3.out.r7.lt
        cases hk : isM t3 [44] with
        | true =>
          go_wp2_with fail
          refine (isR w0 b o3 c3 t3 _ ⟨#[44]⟩ [44] rfl (by decide) G3.out.st G3.out.un).mono ?_
          rintro e y1 ⟨rfl, hy1⟩
          have GY1 := hid (G3.out.kept hy1)
          have hz1 := hy1.size
          try simp at hz1
          clear hy1
          clear c_s f_s l_s c_d f_d l_d c_6 f_6 l_6 c_7 f_7 l_7
          have c_s := GY1.out.sb.cellF
          have f_s := GY1.out.sb.frz
          have l_s := GY1.out.sb.lt
          have c_d := GY1.out.db.cellF
          have f_d := GY1.out.db.frz
          have l_d := GY1.out.db.lt
          have c_6 := GY1.out.r6.cellF
          have f_6 := GY1.out.r6.frz
          have l_6 := GY1.out.r6.lt
          have c_7 := GY1.out.r7.cellF
          have f_7 := GY1.out.r7.frz
          have l_7 := GY1.out.r7.lt
          rw [hk]
          go_wp2_with fail
          refine (eatR w0 b o3 c3 t3 _ ⟨#[44]⟩ [44] rfl (by decide) G3.out.st GY1.out.un).mono ?_
          rintro e y2 ⟨⟨s9, o9, c9, he9, rfl, hst9⟩, hy2⟩
          have GY2 := hid (GY1.out.kept hy2)
          have hz2 := hy2.size
          try simp at hz2
          clear hy2
          clear c_s f_s l_s c_d f_d l_d c_6 f_6 l_6 c_7 f_7 l_7
          have c_s := GY2.out.sb.cellF
          have f_s := GY2.out.sb.frz
          have l_s := GY2.out.sb.lt
          have c_d := GY2.out.db.cellF
          have f_d := GY2.out.db.frz
          have l_d := GY2.out.db.lt
          have c_6 := GY2.out.r6.cellF
          have f_6 := GY2.out.r6.frz
          have l_6 := GY2.out.r6.lt
          have c_7 := GY2.out.r7.cellF
          have f_7 := GY2.out.r7.frz
          have l_7 := GY2.out.r7.lt
          replace hst9 := hid hst9
          have GL := hid (GY2.out.setS hst9.out)
          have HLT : Hid (muM s9 < muM t) := hid (by rw [he9.out]; have h1 := mu_eat_lt (is_parts hk).1 [44]; have h2 := mu_rng t; rw [HRG.out] at h2; dsimp only at h2; omega)
          go_wp2
          exact ⟨⟨l ++ [⟨m.n, k.n, (m.line, m.col)⟩], s9, o9, c9, la, lc, hid (by rw [hrl.out, HRG.out]; dsimp only [atM]; rw [rngLr_go hk, ← he9.out]), hid (by have := GL.out; rw [List.length_append]; exact this), hid (by have h1 := htb.out; have h2 := HLT.out; simp; omega)⟩, by rw [hm0, muW_is GL.out.sb]; exact HLT.out⟩
        | false =>
          go_wp2_with fail
          refine (isR w0 b o3 c3 t3 _ ⟨#[44]⟩ [44] rfl (by decide) G3.out.st G3.out.un).mono ?_
          rintro e y1 ⟨rfl, hy1⟩
          have GY1 := hid (G3.out.kept hy1)
          have hz1 := hy1.size
          try simp at hz1
          clear hy1
          clear c_s f_s l_s c_d f_d l_d c_6 f_6 l_6 c_7 f_7 l_7
          have c_s := GY1.out.sb.cellF
          have f_s := GY1.out.sb.frz
          have l_s := GY1.out.sb.lt
          have c_d := GY1.out.db.cellF
          have f_d := GY1.out.db.frz
          have l_d := GY1.out.db.lt
          have c_6 := GY1.out.r6.cellF
          have f_6 := GY1.out.r6.frz
          have l_6 := GY1.out.r6.lt
          have c_7 := GY1.out.r7.cellF
          have f_7 := GY1.out.r7.frz
          have l_7 := GY1.out.r7.lt
          rw [hk]
          go_wp2_with fail
          have Bd : Blk y1 (w.heap.size + 1) 74 #[.bool xd.enum, .string (strOfNums xd.name), .int .i64 xd.at1.1, .int .i64 xd.at1.2, .slice fa xd.fields.length fc, .slice oa xd.oneofs.length oc, .slice da xd.decls.length dc, .slice la (l.length + 1) lc, .slice ya xd.syms.length yc] := GY1.out.db
          have Bs : Blk y1 w.heap.size 54 #[.slice (some ⟨b, o3, none⟩) t3.l.length c3, .int .i64 t3.cd, .int .i64 0, .int .i64 t3.ln, .int .i64 t3.cl] := GY1.out.sb
          go_region_held3 (fun W => (W.cell? ⟨w.heap.size + 1, 0, none⟩ = some (.bool xd.enum) ∧ W.cell? ⟨w.heap.size + 1, 1, none⟩ = some (.string (strOfNums xd.name)) ∧ W.cell? ⟨w.heap.size + 1, 2, none⟩ = some (.int .i64 xd.at1.1) ∧ W.cell? ⟨w.heap.size + 1, 3, none⟩ = some (.int .i64 xd.at1.2) ∧ W.cell? ⟨w.heap.size + 1, 4, none⟩ = some (.slice fa xd.fields.length fc) ∧ W.cell? ⟨w.heap.size + 1, 5, none⟩ = some (.slice oa xd.oneofs.length oc) ∧ W.cell? ⟨w.heap.size + 1, 6, none⟩ = some (.slice da xd.decls.length dc) ∧ W.cell? ⟨w.heap.size + 1, 7, none⟩ = some (.slice la (l.length + 1) lc) ∧ W.cell? ⟨w.heap.size + 1, 8, none⟩ = some (.slice ya xd.syms.length yc)) ∧ (W.cell? ⟨w.heap.size, 0, none⟩ = some (.slice (some ⟨b, o3, none⟩) t3.l.length c3) ∧ W.cell? ⟨w.heap.size, 1, none⟩ = some (.int .i64 t3.cd) ∧ W.cell? ⟨w.heap.size, 2, none⟩ = some (.int .i64 0) ∧ W.cell? ⟨w.heap.size, 3, none⟩ = some (.int .i64 t3.ln) ∧ W.cell? ⟨w.heap.size, 4, none⟩ = some (.int .i64 t3.cl))) ((refine ⟨blkc9 (t := 74) ?_, blkc5 (t := 54) ?_⟩ <;> (with_reducible repeat (first | exact Vd.out | exact Vs.out | exact Bd | exact Bs | refine Blk.oth ?_ | refine Blk.kept ?_ (below_drew1 _) | refine Blk.kept ?_ (below_alloc _))); done)) (first | (go_at_call 18; refine (eatR w0 b o3 c3 t3 _ ⟨#[59]⟩ [59] rfl (by decide) GY1.out.st (bl_then GY1.out.un (by exact blBy))).mono ?_; rintro e u9 ⟨⟨s9, o9, c9, he9, rfl, hst9⟩, hbu⟩; have G9 := hid (GY1.out.kept (bl_then (by exact blBy) hbu)); have Vd : Hid (Blk u9 (w.heap.size + 1) 74 #[.bool xd.enum, .string (strOfNums xd.name), .int .i64 xd.at1.1, .int .i64 xd.at1.2, .slice fa xd.fields.length fc, .slice oa xd.oneofs.length oc, .slice da xd.decls.length dc, .slice la (l.length + 1) lc, .slice ya xd.syms.length yc]) := hid G9.out.db; have Vs : Hid (Blk u9 w.heap.size 54 #[.slice (some ⟨b, o3, none⟩) t3.l.length c3, .int .i64 t3.cd, .int .i64 0, .int .i64 t3.ln, .int .i64 t3.cl]) := hid G9.out.sb; have vx6 := G9.out.r6.cellF; have vy6 := G9.out.r6.frz; have vl6 := G9.out.r6.lt; have vx7 := G9.out.r7.cellF; have vy7 := G9.out.r7.frz; have vl7 := G9.out.r7.lt; have hsu := hbu.size; (try simp at hsu); replace hst9 := hid hst9; clear hbu))
          all_goals go_wp2
          all_goals exact bodyPost_ret (v := .tuple #[.agg #[.bool xd.enum, .string (strOfNums xd.name), .int .i64 xd.at1.1, .int .i64 xd.at1.2, .slice fa xd.fields.length fc, .slice oa xd.oneofs.length oc, .slice da xd.decls.length dc, .slice la (l.length + 1) lc, .slice ya xd.syms.length yc], .agg #[.slice (some ⟨b, o9, none⟩) s9.l.length c9, .int .i64 s9.cd, .int .i64 0, .int .i64 s9.ln, .int .i64 s9.cl]]) (by simp [results, Tryz.results47, go_sem, vx6, vx7, vl6, vl7]) rfl (MemR.is _ s9 o9 c9 (hid (by unfold resM; dsimp only; rw [hrl.out, HRG.out]; dsimp only [atM]; rw [rngLr_stop hk])) (hid (by unfold resM; dsimp only; rw [hrl.out, HRG.out]; dsimp only; rw [rngLr_stop hk]; exact he9.out)) rfl (G9.out.fin (by exact kpBy)).1 hst9 (G9.out.fin (by exact kpBy)).2)
end
end Go.Proofs.YtidimdbnnnpplaaGreatDoor
