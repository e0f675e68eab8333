/-
  The document's member: a oneof.
  The document's member.
-/
import Derived.Test.YtidimdbnnnpplaaGreatDoorCRM0
import Derived.Deep.RegionHeld3
import Derived.Test.YtidimdbnnnpplaaGreatDoorCRF
import Derived.Deep.CutRange
import Derived.Test.YtidimdbnnnpplaaGreatDoorCRM1opt
import Derived.Test.YtidimdbnnnpplaaGreatDoorRM3
namespace Go.Proofs.YtidimdbnnnpplaaGreatDoor
open Go.RowKit
set_option maxRecDepth 1000000
set_option linter.unusedVariables false
set_option linter.unusedSimpArgs false
set_option maxHeartbeats 8000000
theorem oneLr_go {i : Int} {l : List MF} {s : PS} (h0 : s.cd = 0) (h : isM s [125] = false) : oneL i (l, s) = oneL i (oneSt i (l, s)) := by
  unfold oneL
  exact whM_go (p := fun x : List MF × PS => x.2) (x := (l, s)) (one_dec i) (by unfold endC; simp [h0, h])
theorem oneLr_stop {i : Int} {l : List MF} {s : PS} (h : isM s [125] = true) : oneL i (l, s) = (l, s) := by
  unfold oneL
  exact whM_stop (by unfold endC; simp [h])
def firstW (v : Value) : Nat := match v with
  | .bool true => 1
  | _ => 0
section
variable (w0 : World) (b off cap : Nat) (s : PS) (w : World) (base n : Nat)
theorem memR_oneof (x : DV) (depth : Int) (hi : isM s wOneof = true) (htot : tot x.d + 3 * muM s ≤ 300000) (h : StR w0 b off cap s) (hb : Below w0.heap.size w0 w) (hw : w0.heap.size ≤ base) (hlo : base ≤ w.heap.size) (ho : OwnD w base n 78 139 74 136 126 (fun _ => False) x) : Calls Tryz.prog 47 #[.agg #[.slice (some ⟨b, off, none⟩) s.l.length cap, .int .i64 s.cd, .int .i64 0, .int .i64 s.ln, .int .i64 s.cl], .agg #[.bool x.d.enum, .string (strOfNums x.d.name), .int .i64 x.d.at1.1, .int .i64 x.d.at1.2, x.f, x.o, x.dd, x.r, x.s], .int .i64 depth] w (MemR w0 b base n (oneofM x.d s) w) := by
  have HH := hid hi
  clear hi
  obtain ⟨xd, xf, xo, xdd, xr, xs⟩ := x
  dsimp only at *
  obtain ⟨fa, fc, rfl⟩ : ∃ a c, xf = .slice a xd.fields.length c := own_shape ho.f
  obtain ⟨oa, oc, rfl⟩ : ∃ a c, xo = .slice a xd.oneofs.length c := own_shape ho.o
  obtain ⟨ra, rc, rfl⟩ : ∃ a c, xr = .slice a xd.res.length c := own_shape ho.r
  obtain ⟨ya, yc, rfl⟩ : ∃ a c, xs = .slice a xd.syms.length c := own_shape ho.s
  obtain ⟨da, dc, rfl⟩ : ∃ a c, xdd = .slice a xd.decls.length c := ho.ddS
  have HTT := hid htot
  have HLO := hid hlo
  have HB := hid hb
  have G0 := hid (Mem.start h hb hw ho hlo)
  dsimp only at G0
  clear h hb hw ho htot hlo
  go_enter Tryz.func47, Tryz.ntmps47
  go_wp2_with fail
  refine (isR w0 b off cap s _ ⟨#[109, 101, 115, 115, 97, 103, 101]⟩ wMessage rfl (by decide) G0.out.st G0.out.un).mono ?_
  rintro e w1 ⟨rfl, hb1⟩
  have G1 := hid (G0.out.kept hb1)
  have hs1 := hb1.size
  try simp at hs1
  clear hb1
  have c_s := G1.out.sb.cellF
  have f_s := G1.out.sb.frz
  have l_s := G1.out.sb.lt
  have c_d := G1.out.db.cellF
  have f_d := G1.out.db.frz
  have l_d := G1.out.db.lt
  have c_6 := G1.out.r6.cellF
  have f_6 := G1.out.r6.frz
  have l_6 := G1.out.r6.lt
  have c_7 := G1.out.r7.cellF
  have f_7 := G1.out.r7.frz
  have l_7 := G1.out.r7.lt
  rw [isR_other HH.out (by decide)]
  go_wp2_with fail
  refine (isR w0 b off cap s _ ⟨#[101, 110, 117, 109]⟩ wEnum rfl (by decide) G1.out.st G1.out.un).mono ?_
  rintro e w2 ⟨rfl, hb2⟩
  have G2 := hid (G1.out.kept hb2)
  have hs2 := hb2.size
  try simp at hs2
  clear hb2
  clear c_s f_s l_s c_d f_d l_d c_6 f_6 l_6 c_7 f_7 l_7
  have c_s := G2.out.sb.cellF
  have f_s := G2.out.sb.frz
  have l_s := G2.out.sb.lt
  have c_d := G2.out.db.cellF
  have f_d := G2.out.db.frz
  have l_d := G2.out.db.lt
  have c_6 := G2.out.r6.cellF
  have f_6 := G2.out.r6.frz
  have l_6 := G2.out.r6.lt
  have c_7 := G2.out.r7.cellF
  have f_7 := G2.out.r7.frz
  have l_7 := G2.out.r7.lt
  rw [isR_other HH.out (by decide)]
  go_wp2_with fail
  refine (isR w0 b off cap s _ ⟨#[111, 110, 101, 111, 102]⟩ wOneof rfl (by decide) G2.out.st G2.out.un).mono ?_
  rintro e w3 ⟨rfl, hb3⟩
  have G3 := hid (G2.out.kept hb3)
  have hs3 := hb3.size
  try simp at hs3
  clear hb3
  clear c_s f_s l_s c_d f_d l_d c_6 f_6 l_6 c_7 f_7 l_7
  have c_s := G3.out.sb.cellF
  have f_s := G3.out.sb.frz
  have l_s := G3.out.sb.lt
  have c_d := G3.out.db.cellF
  have f_d := G3.out.db.frz
  have l_d := G3.out.db.lt
  have c_6 := G3.out.r6.cellF
  have f_6 := G3.out.r6.frz
  have l_6 := G3.out.r6.lt
  have c_7 := G3.out.r7.cellF
  have f_7 := G3.out.r7.frz
  have l_7 := G3.out.r7.lt
  rw [HH.out]
  go_wp2_with fail
  refine (eatR w0 b off cap s _ ⟨#[111, 110, 101, 111, 102]⟩ wOneof rfl (by decide) G3.out.st G3.out.un).mono ?_
  rintro e w4 ⟨⟨s1, o1, c1, he1, rfl, hst1⟩, hb4⟩
  have G4 := hid (G3.out.kept hb4)
  have hs4 := hb4.size
  try simp at hs4
  clear hb4
  clear c_s f_s l_s c_d f_d l_d c_6 f_6 l_6 c_7 f_7 l_7
  have c_s := G4.out.sb.cellF
  have f_s := G4.out.sb.frz
  have l_s := G4.out.sb.lt
  have c_d := G4.out.db.cellF
  have f_d := G4.out.db.frz
  have l_d := G4.out.db.lt
  have c_6 := G4.out.r6.cellF
  have f_6 := G4.out.r6.frz
  have l_6 := G4.out.r6.lt
  have c_7 := G4.out.r7.cellF
  have f_7 := G4.out.r7.frz
  have l_7 := G4.out.r7.lt
  replace hst1 := hid hst1
  have GS4 := hid (G4.out.setS hst1.out)
  go_wp2_with fail
  refine (takeR w0 b o1 c1 s1 _ 1 (by decide) (by decide) hst1.out GS4.out.un).mono ?_
  rintro e w5 ⟨⟨m, s2, sa, sc, o2, c2, hm, he2, rfl, hr2, hok, hst2⟩, hb5⟩
  have G5 := hid (GS4.out.kept hb5)
  have hs5 := hb5.size
  try simp at hs5
  clear hb5
  clear c_s f_s l_s c_d f_d l_d c_6 f_6 l_6 c_7 f_7 l_7
  have c_s := G5.out.sb.cellF
  have f_s := G5.out.sb.frz
  have l_s := G5.out.sb.lt
  have c_d := G5.out.db.cellF
  have f_d := G5.out.db.frz
  have l_d := G5.out.db.lt
  have c_6 := G5.out.r6.cellF
  have f_6 := G5.out.r6.frz
  have l_6 := G5.out.r6.lt
  have c_7 := G5.out.r7.cellF
  have f_7 := G5.out.r7.frz
  have l_7 := G5.out.r7.lt
  have HOA : Hid (onA s = (m, s2)) := hid (by unfold onA; rw [← he1.out, hm.out, he2.out])
  have Bm0 : Blk ((w5.alloc (.cells #[.int .i64 m.kind, .string (strOfNums m.s), .int .u64 m.n, .slice sa m.b.length sc, .int .i64 m.line, .int .i64 m.col] 58)).alloc (.cells #[.slice (some ⟨b, o2, none⟩) s2.l.length c2, .int .i64 s2.cd, .int .i64 0, .int .i64 s2.ln, .int .i64 s2.cl] 54)) (w5.heap.size) 58 #[.int .i64 m.kind, .string (strOfNums m.s), .int .u64 m.n, .slice sa m.b.length sc, .int .i64 m.line, .int .i64 m.col] := (Blk.newAt rfl).kept (below_alloc _)
  go_wp2_with fail
  refine (eatR w0 b o2 c2 s2 _ ⟨#[123]⟩ [123] rfl (by decide) hst2.out (bl_then G5.out.un (below_twor _ _))).mono ?_
  rintro e w6 ⟨⟨s3, o3, c3, he3, rfl, hst3⟩, hb6⟩
  have G6 := hid (G5.out.kept (bl_then (below_twor _ _) hb6))
  have hs6 := hb6.size
  try simp at hs6
  have Bm1 : Blk w6 (w5.heap.size) 58 #[.int .i64 m.kind, .string (strOfNums m.s), .int .u64 m.n, .slice sa m.b.length sc, .int .i64 m.line, .int .i64 m.col] := Bm0.kept hb6
  clear hb6
  clear c_s f_s l_s c_d f_d l_d c_6 f_6 l_6 c_7 f_7 l_7
  have c_s := G6.out.sb.cellF
  have f_s := G6.out.sb.frz
  have l_s := G6.out.sb.lt
  have c_d := G6.out.db.cellF
  have f_d := G6.out.db.frz
  have l_d := G6.out.db.lt
  have c_6 := G6.out.r6.cellF
  have f_6 := G6.out.r6.frz
  have l_6 := G6.out.r6.lt
  have c_7 := G6.out.r7.cellF
  have f_7 := G6.out.r7.frz
  have l_7 := G6.out.r7.lt
  replace hst3 := hid hst3
  have GS6 := hid (G6.out.setS hst3.out)
  have hol : ((xd.oneofs.length : Int)) ≤ 9223372036854775807 := by have := HTT.out; unfold tot at this; omega
  go_upto_region 10 with fail
  have Bm2 : Blk (((((w6.setCell ⟨w.heap.size, 0, none⟩ (.slice (some ⟨b, o3, none⟩) s3.l.length c3)).setCell ⟨w.heap.size, 1, none⟩ (.int .i64 s3.cd)).setCell ⟨w.heap.size, 2, none⟩ (.int .i64 0)).setCell ⟨w.heap.size, 3, none⟩ (.int .i64 s3.ln)).setCell ⟨w.heap.size, 4, none⟩ (.int .i64 s3.cl)) (w5.heap.size) 58 #[.int .i64 m.kind, .string (strOfNums m.s), .int .u64 m.n, .slice sa m.b.length sc, .int .i64 m.line, .int .i64 m.col] := blkoth5 Bm1 (show w5.heap.size ≠ w.heap.size by have := G5.out.sb.lt; omega)
  have HKX : Hid (w.heap.size + 1 + 1 + 1 < w5.heap.size) := hid G5.out.r7.lt
  clear Bm0 Bm1 c_s f_s l_s c_d f_d l_d c_6 f_6 l_6 c_7 f_7 l_7
  generalize hwz : (((((w6.setCell ⟨w.heap.size, 0, none⟩ (.slice (some ⟨b, o3, none⟩) s3.l.length c3)).setCell ⟨w.heap.size, 1, none⟩ (.int .i64 s3.cd)).setCell ⟨w.heap.size, 2, none⟩ (.int .i64 0)).setCell ⟨w.heap.size, 3, none⟩ (.int .i64 s3.ln)).setCell ⟨w.heap.size, 4, none⟩ (.int .i64 s3.cl)) = wz at *
  clear hwz
  go_cut [] from 64 to 73 (fun wc => ∃ za zc, Hid (Mem w0 b w base n wc o3 c3 s3 ⟨{ xd with fields := xd.fields, oneofs := xd.oneofs ++ [(⟨m.s, atM m⟩ : MO)] }, .slice fa xd.fields.length fc, .slice za (xd.oneofs.length + 1) zc, .slice da xd.decls.length dc, .slice ra xd.res.length rc, .slice ya xd.syms.length yc⟩))
  case first =>
    have c_s := GS6.out.sb.cellF
    have f_s := GS6.out.sb.frz
    have l_s := GS6.out.sb.lt
    have c_d := GS6.out.db.cellF
    have f_d := GS6.out.db.frz
    have l_d := GS6.out.db.lt
    have c_6 := GS6.out.r6.cellF
    have f_6 := GS6.out.r6.frz
    have l_6 := GS6.out.r6.lt
    have c_7 := GS6.out.r7.cellF
    have f_7 := GS6.out.r7.frz
    have l_7 := GS6.out.r7.lt
    have xm := Bm2.cellF
    have lm := Bm2.lt
    have nmd : w5.heap.size ≠ w.heap.size + 1 := by have := HKX.out; omega
    refine wp_region_held_drew (S := (fun W => W.cell? ⟨w5.heap.size, 0, none⟩ = some (.int .i64 m.kind) ∧ W.cell? ⟨w5.heap.size, 1, none⟩ = some (.string (strOfNums m.s)) ∧ W.cell? ⟨w5.heap.size, 2, none⟩ = some (.int .u64 m.n) ∧ W.cell? ⟨w5.heap.size, 3, none⟩ = some (.slice sa m.b.length sc) ∧ W.cell? ⟨w5.heap.size, 4, none⟩ = some (.int .i64 m.line) ∧ W.cell? ⟨w5.heap.size, 5, none⟩ = some (.int .i64 m.col))) (by kernel_rfl) ?_ (fun hHeld => ?_)
    · exact blkc6 (t := 58) (Bm2.kept (below_drew1 _))
    refine wpAnyH_take (i := 0) (v := ?_) rfl (by kernel_rfl) (by kernel_rfl) (by kernel_rfl) (fun _ _ _ h => h) (Or.inl ⟨by rfl, ?_⟩) (by assumption) ?_
    rotate_left
    · (intro w hSw; (try dsimp only at hSw); go_simp; (try with_reducible rfl))
    try simp only [Act.put, List.setIfInBounds_toArray, List.set_cons_zero, List.set_cons_succ]
    refine wpAnyH_take (i := 2) (v := ?_) rfl (by kernel_rfl) (by kernel_rfl) (by kernel_rfl) (fun _ _ _ h => h) (Or.inl ⟨by rfl, ?_⟩) (by assumption) ?_
    rotate_left
    · (intro w hSw; (try dsimp only at hSw); go_simp; (try with_reducible rfl))
    try simp only [Act.put, List.setIfInBounds_toArray, List.set_cons_zero, List.set_cons_succ]
    refine wpAnyH_take (i := 3) (v := ?_) rfl (by kernel_rfl) (by kernel_rfl) (by kernel_rfl) (fun _ _ _ h => h) (Or.inl ⟨by rfl, ?_⟩) (by assumption) ?_
    rotate_left
    · (intro w hSw; (try dsimp only at hSw); go_simp; (try with_reducible rfl))
    try simp only [Act.put, List.setIfInBounds_toArray, List.set_cons_zero, List.set_cons_succ]
    refine wpAnyH_take (i := 4) (v := ?_) rfl (by kernel_rfl) (by kernel_rfl) (by kernel_rfl) (fun _ _ _ h => h) (Or.inl ⟨by rfl, ?_⟩) (by assumption) ?_
    rotate_left
    · (intro w hSw; (try dsimp only at hSw); go_simp; (try with_reducible rfl))
    try simp only [Act.put, List.setIfInBounds_toArray, List.set_cons_zero, List.set_cons_succ]
    refine wpAnyH_ready (rs := [1, 5]) (by kernel_rfl) (by simp) ?_
    refine AllReadyH.cons rfl (fun K hK => ?_) ?_
    · go_simp
      refine hK.out _ _ ?_ (fun hHeld => ?_)
      · first | assumption | exact blkc6 (t := 58) (Bm2.kept (below_drew1 _))
      clear hK K
      try simp only [Act.put, List.setIfInBounds_toArray, List.set_cons_zero, List.set_cons_succ]
      refine wpAnyH_ready (rs := [5]) (by kernel_rfl) (by simp) ?_
      refine AllReadyH.cons rfl (fun K hK => ?_) ?_
      · go_simp
        go_wp2_with (go_at_call 20; refine (atR _ m sa sc).mono ?_; rintro e u1 ⟨rfl, hbu⟩; have Vm : Hid (Blk u1 (w5.heap.size) 58 #[.int .i64 m.kind, .string (strOfNums m.s), .int .u64 m.n, .slice sa m.b.length sc, .int .i64 m.line, .int .i64 m.col]) := hid (Blk.kept (Bm2.kept (below_drew1 _)) hbu); have GU := hid (GS6.out.kept (bl_then (below_drew1 _) hbu)); have u_d := GU.out.db.cellF; have v_d := GU.out.db.frz; have w_d := GU.out.db.lt; clear hbu)
        refine hK.out _ _ ?_ (fun hHeld => ?_)
        · first | assumption | exact blkc6 (t := 58) (Vm.out)
        clear hK K
        try simp only [Act.put, List.setIfInBounds_toArray, List.set_cons_zero, List.set_cons_succ]
        obtain ⟨la, lc, x3, HRUN, HGR, HB3, G3⟩ := GU.out.moreO rfl (by have := HTT.out; unfold tot at this; dsimp only; omega) ⟨m.s, atM m⟩
        dsimp only [atM] at HRUN HGR HB3 G3
        refine wpAnyH_take (i := 6) (v := ?_) rfl (by kernel_rfl) (by kernel_rfl) (by kernel_rfl) (fun _ _ _ h => h) (Or.inl ⟨by rfl, ?_⟩) (by assumption) ?_
        rotate_left
        · (intro w hSw; (try dsimp only at hSw); go_simp; (try with_reducible rfl))
        try simp only [Act.put, List.setIfInBounds_toArray, List.set_cons_zero, List.set_cons_succ]
        refine wpAnyH_ready (rs := [7]) (by kernel_rfl) (by simp) ?_
        refine AllReadyH.cons rfl (fun K hK => ?_) ?_
        · go_simp
          refine hK.out _ _ ?_ (fun hHeld => ?_)
          · first | assumption | exact blkc6 (t := 58) (Vm.out.kept (below_alloc _))
          clear hK K
          try simp only [Act.put, List.setIfInBounds_toArray, List.set_cons_zero, List.set_cons_succ]
          refine wpAnyH_ready (rs := [8]) (by kernel_rfl) (by simp) ?_
          refine AllReadyH.cons rfl (fun K hK => ?_) ?_
          · refine step_append_ran rfl _ _ 70 70 rfl rfl _ _ (.slice la (xd.oneofs.length + 1) lc) x3 rfl rfl HRUN.out ?_
            have Gm := hid (growR_blk HGR.out GU.out.own.o Vm.out (by decide))
            have c_3 := HB3.out.cellF
            have f_3 := HB3.out.frz
            refine hK.out _ _ ?_ (fun hHeld => ?_)
            · first | assumption | exact blkc6 (t := 58) (Gm.out)
            clear hK K
            try simp only [Act.put, List.setIfInBounds_toArray, List.set_cons_zero, List.set_cons_succ]
            refine wpAnyH_take (i := 9) (v := ?_) rfl (by kernel_rfl) (by kernel_rfl) (by kernel_rfl) (fun _ _ _ h => h) (Or.inl ⟨by rfl, ?_⟩) (by assumption) ?_
            rotate_left
            · (intro w hSw; (try dsimp only at hSw); go_simp; (try with_reducible rfl))
            try simp only [Act.put, List.setIfInBounds_toArray, List.set_cons_zero, List.set_cons_succ]
            refine wpAnyH_ready (rs := [10]) (by kernel_rfl) (by simp) ?_
            refine AllReadyH.cons rfl (fun K hK => ?_) ?_
            · go_simp
              refine hK.out _ _ ?_ (fun hHeld => ?_)
              · first | assumption | exact blkc6 (t := 58) (Gm.out.other (show w5.heap.size ≠ w.heap.size + 1 from nmd) _)
              clear hK K
              try simp only [Act.put, List.setIfInBounds_toArray, List.set_cons_zero, List.set_cons_succ]
              refine wpAnyH_done (by kernel_rfl) ?_ _
              go_wp2_with fail
              go_meet
              exact ⟨la, lc, G3⟩
            exact AllReadyH.nil
          exact AllReadyH.nil
        exact AllReadyH.nil
      exact AllReadyH.nil
    refine AllReadyH.cons rfl (fun K hK => ?_) ?_
    · go_simp
      go_wp2_with (go_at_call 20; refine (atR _ m sa sc).mono ?_; rintro e u1 ⟨rfl, hbu⟩; have Vm : Hid (Blk u1 (w5.heap.size) 58 #[.int .i64 m.kind, .string (strOfNums m.s), .int .u64 m.n, .slice sa m.b.length sc, .int .i64 m.line, .int .i64 m.col]) := hid (Blk.kept (Bm2.kept (below_drew1 _)) hbu); have GU := hid (GS6.out.kept (bl_then (below_drew1 _) hbu)); have u_d := GU.out.db.cellF; have v_d := GU.out.db.frz; have w_d := GU.out.db.lt; clear hbu)
      refine hK.out _ _ ?_ (fun hHeld => ?_)
      · first | assumption | exact blkc6 (t := 58) (Vm.out)
      clear hK K
      try simp only [Act.put, List.setIfInBounds_toArray, List.set_cons_zero, List.set_cons_succ]
      obtain ⟨la, lc, x3, HRUN, HGR, HB3, G3⟩ := GU.out.moreO rfl (by have := HTT.out; unfold tot at this; dsimp only; omega) ⟨m.s, atM m⟩
      dsimp only [atM] at HRUN HGR HB3 G3
      refine wpAnyH_take (i := 6) (v := ?_) rfl (by kernel_rfl) (by kernel_rfl) (by kernel_rfl) (fun _ _ _ h => h) (Or.inl ⟨by rfl, ?_⟩) (by assumption) ?_
      rotate_left
      · (intro w hSw; (try dsimp only at hSw); go_simp; (try with_reducible rfl))
      try simp only [Act.put, List.setIfInBounds_toArray, List.set_cons_zero, List.set_cons_succ]
      refine wpAnyH_ready (rs := [1, 7]) (by kernel_rfl) (by simp) ?_
      refine AllReadyH.cons rfl (fun K hK => ?_) ?_
      · go_simp
        refine hK.out _ _ ?_ (fun hHeld => ?_)
        · first | assumption | exact blkc6 (t := 58) (Vm.out)
        clear hK K
        try simp only [Act.put, List.setIfInBounds_toArray, List.set_cons_zero, List.set_cons_succ]
        refine wpAnyH_ready (rs := [7]) (by kernel_rfl) (by simp) ?_
        refine AllReadyH.cons rfl (fun K hK => ?_) ?_
        · go_simp
          refine hK.out _ _ ?_ (fun hHeld => ?_)
          · first | assumption | exact blkc6 (t := 58) (Vm.out.kept (below_alloc _))
          clear hK K
          try simp only [Act.put, List.setIfInBounds_toArray, List.set_cons_zero, List.set_cons_succ]
          refine wpAnyH_ready (rs := [8]) (by kernel_rfl) (by simp) ?_
          refine AllReadyH.cons rfl (fun K hK => ?_) ?_
          · refine step_append_ran rfl _ _ 70 70 rfl rfl _ _ (.slice la (xd.oneofs.length + 1) lc) x3 rfl rfl HRUN.out ?_
            have Gm := hid (growR_blk HGR.out GU.out.own.o Vm.out (by decide))
            have c_3 := HB3.out.cellF
            have f_3 := HB3.out.frz
            refine hK.out _ _ ?_ (fun hHeld => ?_)
            · first | assumption | exact blkc6 (t := 58) (Gm.out)
            clear hK K
            try simp only [Act.put, List.setIfInBounds_toArray, List.set_cons_zero, List.set_cons_succ]
            refine wpAnyH_take (i := 9) (v := ?_) rfl (by kernel_rfl) (by kernel_rfl) (by kernel_rfl) (fun _ _ _ h => h) (Or.inl ⟨by rfl, ?_⟩) (by assumption) ?_
            rotate_left
            · (intro w hSw; (try dsimp only at hSw); go_simp; (try with_reducible rfl))
            try simp only [Act.put, List.setIfInBounds_toArray, List.set_cons_zero, List.set_cons_succ]
            refine wpAnyH_ready (rs := [10]) (by kernel_rfl) (by simp) ?_
            refine AllReadyH.cons rfl (fun K hK => ?_) ?_
            · go_simp
              refine hK.out _ _ ?_ (fun hHeld => ?_)
              · first | assumption | exact blkc6 (t := 58) (Gm.out.other (show w5.heap.size ≠ w.heap.size + 1 from nmd) _)
              clear hK K
              try simp only [Act.put, List.setIfInBounds_toArray, List.set_cons_zero, List.set_cons_succ]
              refine wpAnyH_done (by kernel_rfl) ?_ _
              go_wp2_with fail
              go_meet
              exact ⟨la, lc, G3⟩
            exact AllReadyH.nil
          exact AllReadyH.nil
        exact AllReadyH.nil
      refine AllReadyH.cons rfl (fun K hK => ?_) ?_
      · go_simp
        refine hK.out _ _ ?_ (fun hHeld => ?_)
        · first | assumption | exact blkc6 (t := 58) (Vm.out.kept (below_alloc _))
        clear hK K
        try simp only [Act.put, List.setIfInBounds_toArray, List.set_cons_zero, List.set_cons_succ]
        refine wpAnyH_ready (rs := [1]) (by kernel_rfl) (by simp) ?_
        refine AllReadyH.cons rfl (fun K hK => ?_) ?_
        · go_simp
          refine hK.out _ _ ?_ (fun hHeld => ?_)
          · first | assumption | exact blkc6 (t := 58) (Vm.out.kept (below_alloc _))
          clear hK K
          try simp only [Act.put, List.setIfInBounds_toArray, List.set_cons_zero, List.set_cons_succ]
          refine wpAnyH_ready (rs := [8]) (by kernel_rfl) (by simp) ?_
          refine AllReadyH.cons rfl (fun K hK => ?_) ?_
          · refine step_append_ran rfl _ _ 70 70 rfl rfl _ _ (.slice la (xd.oneofs.length + 1) lc) x3 rfl rfl HRUN.out ?_
            have Gm := hid (growR_blk HGR.out GU.out.own.o Vm.out (by decide))
            have c_3 := HB3.out.cellF
            have f_3 := HB3.out.frz
            refine hK.out _ _ ?_ (fun hHeld => ?_)
            · first | assumption | exact blkc6 (t := 58) (Gm.out)
            clear hK K
            try simp only [Act.put, List.setIfInBounds_toArray, List.set_cons_zero, List.set_cons_succ]
            refine wpAnyH_take (i := 9) (v := ?_) rfl (by kernel_rfl) (by kernel_rfl) (by kernel_rfl) (fun _ _ _ h => h) (Or.inl ⟨by rfl, ?_⟩) (by assumption) ?_
            rotate_left
            · (intro w hSw; (try dsimp only at hSw); go_simp; (try with_reducible rfl))
            try simp only [Act.put, List.setIfInBounds_toArray, List.set_cons_zero, List.set_cons_succ]
            refine wpAnyH_ready (rs := [10]) (by kernel_rfl) (by simp) ?_
            refine AllReadyH.cons rfl (fun K hK => ?_) ?_
            · go_simp
              refine hK.out _ _ ?_ (fun hHeld => ?_)
              · first | assumption | exact blkc6 (t := 58) (Gm.out.other (show w5.heap.size ≠ w.heap.size + 1 from nmd) _)
              clear hK K
              try simp only [Act.put, List.setIfInBounds_toArray, List.set_cons_zero, List.set_cons_succ]
              refine wpAnyH_done (by kernel_rfl) ?_ _
              go_wp2_with fail
              go_meet
              exact ⟨la, lc, G3⟩
            exact AllReadyH.nil
          exact AllReadyH.nil
        exact AllReadyH.nil
      exact AllReadyH.nil
    exact AllReadyH.nil
  case rest =>
    obtain ⟨za, zc, GC⟩ := hcut
    clear Bm2 GS6
    have HX : Hid (oneofM xd s = ({ xd with fields := (onB (xd.oneofs.length : Int) xd.fields s).1, oneofs := xd.oneofs ++ [(⟨m.s, atM m⟩ : MO)] }, eatM (onB (xd.oneofs.length : Int) xd.fields s).2 [125])) := hid (by unfold oneofM; rw [HOA.out])
    have HXB : Hid (onB (xd.oneofs.length : Int) xd.fields s = oneL (xd.oneofs.length : Int) (oneSt (xd.oneofs.length : Int) (xd.fields, s3))) := hid (by unfold onB; rw [HOA.out]; dsimp only; rw [← he3.out])
    have HTB : Hid (xd.fields.length + 1 + 3 * muM s3 ≤ 300000) := hid (by have h1 := HTT.out; have h2 : muM s3 ≤ muM s2 := (by rw [he3.out]; exact mu_eat _ _); have h3 : muM s2 ≤ muM s1 := (by rw [he2.out]; exact mu_take _ (by decide)); have h4 : muM s1 < muM s := (by rw [he1.out]; exact mu_eat_lt (is_parts HH.out).1 _); unfold tot at h1; omega)
    go_wp2
    go_loopw [13] (fun r wr => ∃ (f : Bool) (l : List MF) (t : PS) (o c : Nat) (va : Option Addr) (vc : Nat), r = .bool f ∧ Hid (onB (xd.oneofs.length : Int) xd.fields s = if f = true then oneL (xd.oneofs.length : Int) (oneSt (xd.oneofs.length : Int) (l, t)) else oneL (xd.oneofs.length : Int) (l, t)) ∧ Hid (Mem w0 b w base n wr o c t ⟨{ xd with fields := l, oneofs := xd.oneofs ++ [(⟨m.s, atM m⟩ : MO)] }, .slice va l.length vc, .slice za (xd.oneofs.length + 1) zc, .slice da xd.decls.length dc, .slice ra xd.res.length rc, .slice ya xd.syms.length yc⟩) ∧ Hid (l.length + (if f = true then 1 else 0) + 3 * muM t ≤ 300000)) (fun r wr => 2 * muW wr w.heap.size + firstW r)
    case atStart => exact ⟨true, xd.fields, s3, o3, c3, fa, fc, rfl, hid (by rw [if_pos rfl]; exact HXB.out), GC, hid (by rw [if_pos rfl]; exact HTB.out)⟩
    case round =>
      obtain ⟨f, l, t, o, c, va, vc, rfl, hrl, GR, htb⟩ := hrel
      have hm0 := muW_is GR.out.sb
      clear GC
      have c_s := GR.out.sb.cellF
      have f_s := GR.out.sb.frz
      have l_s := GR.out.sb.lt
      have c_d := GR.out.db.cellF
      have f_d := GR.out.db.frz
      have l_d := GR.out.db.lt
      have c_6 := GR.out.r6.cellF
      have f_6 := GR.out.r6.frz
      have l_6 := GR.out.r6.lt
      have c_7 := GR.out.r7.cellF
      have f_7 := GR.out.r7.frz
      have l_7 := GR.out.r7.lt
      cases f with
      | true =>
        have HRL := hid (hrl.out.trans (if_pos rfl))
        go_wp2_with fail
        refine (fieldR w0 b o c t _ 4 (0, 0) GR.out.st GR.out.un).mono ?_
        rintro e y1 ⟨⟨g, t1, o4, c4, hg, he4, rfl, hst4⟩, hy1⟩
        have GY1 := hid (GR.out.kept hy1)
        have hz1 := hy1.size
        clear hy1
        clear c_s f_s l_s c_d f_d l_d c_6 f_6 l_6 c_7 f_7 l_7
        have c_s := GY1.out.sb.cellF
        have f_s := GY1.out.sb.frz
        have l_s := GY1.out.sb.lt
        have c_d := GY1.out.db.cellF
        have f_d := GY1.out.db.frz
        have l_d := GY1.out.db.lt
        have c_6 := GY1.out.r6.cellF
        have f_6 := GY1.out.r6.frz
        have l_6 := GY1.out.r6.lt
        have c_7 := GY1.out.r7.cellF
        have f_7 := GY1.out.r7.frz
        have l_7 := GY1.out.r7.lt
        go_upto_region 16 with fail
        have GZ : Hid (Mem w0 b w base n ((y1.alloc (.cells #[.string (strOfNums g.name), .string (strOfNums g.ty), .string (strOfNums g.key), .int .u64 g.num, .int .i64 g.label, .int .i64 g.packed, .int .i64 (xd.oneofs.length : Int), .int .i64 g.at1.1, .int .i64 g.at1.2, .int .i64 g.nat1.1, .int .i64 g.nat1.2, .int .i64 g.tat.1, .int .i64 g.tat.2, .int .i64 g.mat.1, .int .i64 g.mat.2] 78)).alloc (.cells #[.slice (some ⟨b, o4, none⟩) t1.l.length c4, .int .i64 t1.cd, .int .i64 0, .int .i64 t1.ln, .int .i64 t1.cl] 54)) o c t ⟨{ xd with fields := l, oneofs := xd.oneofs ++ [(⟨m.s, atM m⟩ : MO)] }, .slice va l.length vc, .slice za (xd.oneofs.length + 1) zc, .slice da xd.decls.length dc, .slice ra xd.res.length rc, .slice ya xd.syms.length yc⟩) := hid (GY1.out.kept (below_twor _ _))
        have Bf : Blk ((y1.alloc (.cells #[.string (strOfNums g.name), .string (strOfNums g.ty), .string (strOfNums g.key), .int .u64 g.num, .int .i64 g.label, .int .i64 g.packed, .int .i64 (xd.oneofs.length : Int), .int .i64 g.at1.1, .int .i64 g.at1.2, .int .i64 g.nat1.1, .int .i64 g.nat1.2, .int .i64 g.tat.1, .int .i64 g.tat.2, .int .i64 g.mat.1, .int .i64 g.mat.2] 78)).alloc (.cells #[.slice (some ⟨b, o4, none⟩) t1.l.length c4, .int .i64 t1.cd, .int .i64 0, .int .i64 t1.ln, .int .i64 t1.cl] 54)) (y1.heap.size) 78 #[.string (strOfNums g.name), .string (strOfNums g.ty), .string (strOfNums g.key), .int .u64 g.num, .int .i64 g.label, .int .i64 g.packed, .int .i64 (xd.oneofs.length : Int), .int .i64 g.at1.1, .int .i64 g.at1.2, .int .i64 g.nat1.1, .int .i64 g.nat1.2, .int .i64 g.tat.1, .int .i64 g.tat.2, .int .i64 g.mat.1, .int .i64 g.mat.2] := (Blk.newAt rfl).kept (below_alloc _)
        have Bx : Blk ((y1.alloc (.cells #[.string (strOfNums g.name), .string (strOfNums g.ty), .string (strOfNums g.key), .int .u64 g.num, .int .i64 g.label, .int .i64 g.packed, .int .i64 (xd.oneofs.length : Int), .int .i64 g.at1.1, .int .i64 g.at1.2, .int .i64 g.nat1.1, .int .i64 g.nat1.2, .int .i64 g.tat.1, .int .i64 g.tat.2, .int .i64 g.mat.1, .int .i64 g.mat.2] 78)).alloc (.cells #[.slice (some ⟨b, o4, none⟩) t1.l.length c4, .int .i64 t1.cd, .int .i64 0, .int .i64 t1.ln, .int .i64 t1.cl] 54)) (y1.heap.size + 1) 54 #[.slice (some ⟨b, o4, none⟩) t1.l.length c4, .int .i64 t1.cd, .int .i64 0, .int .i64 t1.ln, .int .i64 t1.cl] := Blk.newAt (by simp)
        clear c_s f_s l_s c_d f_d l_d c_6 f_6 l_6 c_7 f_7 l_7
        generalize ((y1.alloc (.cells #[.string (strOfNums g.name), .string (strOfNums g.ty), .string (strOfNums g.key), .int .u64 g.num, .int .i64 g.label, .int .i64 g.packed, .int .i64 (xd.oneofs.length : Int), .int .i64 g.at1.1, .int .i64 g.at1.2, .int .i64 g.nat1.1, .int .i64 g.nat1.2, .int .i64 g.tat.1, .int .i64 g.tat.2, .int .i64 g.mat.1, .int .i64 g.mat.2] 78)).alloc (.cells #[.slice (some ⟨b, o4, none⟩) t1.l.length c4, .int .i64 t1.cd, .int .i64 0, .int .i64 t1.ln, .int .i64 t1.cl] 54)) = wz at *
        have c_f := Bf.cellF
        have c_x := Bx.cellF
        have l_f := Bf.lt
        have l_x := Bx.lt
        have c_s := GZ.out.sb.cellF
        have f_s := GZ.out.sb.frz
        have l_s := GZ.out.sb.lt
        have c_d := GZ.out.db.cellF
        have f_d := GZ.out.db.frz
        have l_d := GZ.out.db.lt
        have c_6 := GZ.out.r6.cellF
        have f_6 := GZ.out.r6.frz
        have l_6 := GZ.out.r6.lt
        have c_7 := GZ.out.r7.cellF
        have f_7 := GZ.out.r7.frz
        have l_7 := GZ.out.r7.lt
        obtain ⟨la, lc, x3, HRUN, HGR, HB3, G3⟩ := GZ.out.moreF rfl (by have := htb.out; dsimp only; split at this <;> omega) { g with oneof := (xd.oneofs.length : Int) }
        dsimp only at HRUN HGR HB3 G3
        have Bx3 : Blk x3 (y1.heap.size + 1) 54 #[.slice (some ⟨b, o4, none⟩) t1.l.length c4, .int .i64 t1.cd, .int .i64 0, .int .i64 t1.ln, .int .i64 t1.cl] := growR_blk HGR.out GZ.out.own.f Bx (by decide)
        have c_3 := HB3.out.cellF
        have f_3 := HB3.out.frz
        have l_3 := HB3.out.lt
        go_upto_region 17 with (first | (at_builtin; refine wpList_append_ran rfl _ _ 69 69 rfl rfl _ _ (.slice la (l.length + 1) lc) x3 rfl rfl HRUN.out ?_))
        have Bx4 : Blk (x3.setCell ⟨w.heap.size + 1, 4, none⟩ (.slice la (l.length + 1) lc)) (y1.heap.size + 1) 54 #[.slice (some ⟨b, o4, none⟩) t1.l.length c4, .int .i64 t1.cd, .int .i64 0, .int .i64 t1.ln, .int .i64 t1.cl] := Bx3.other (show y1.heap.size + 1 ≠ w.heap.size + 1 by have := GY1.out.r7.lt; omega) _
        clear c_s f_s l_s c_d f_d l_d c_6 f_6 l_6 c_7 f_7 l_7 c_3 f_3 l_3 c_f c_x l_f l_x Bx3 HB3 HRUN HGR Bf Bx
        generalize (x3.setCell ⟨w.heap.size + 1, 4, none⟩ (.slice la (l.length + 1) lc)) = x4 at *
        have c_x := Bx4.cellF
        have l_x := Bx4.lt
        have c_s := G3.out.sb.cellF
        have f_s := G3.out.sb.frz
        have l_s := G3.out.sb.lt
        have c_d := G3.out.db.cellF
        have f_d := G3.out.db.frz
        have l_d := G3.out.db.lt
        have c_6 := G3.out.r6.cellF
        have f_6 := G3.out.r6.frz
        have l_6 := G3.out.r6.lt
        have c_7 := G3.out.r7.cellF
        have f_7 := G3.out.r7.frz
        have l_7 := G3.out.r7.lt
        have GL := hid (G3.out.setS hst4.out)
        have HON : Hid (oneSt (xd.oneofs.length : Int) (l, t) = (l ++ [{ g with oneof := (xd.oneofs.length : Int) }], t1)) := hid (by unfold oneSt oneM; dsimp only; rw [← hg.out, ← he4.out])
        have HLT : Hid (muM t1 ≤ muM t) := hid (by rw [he4.out]; exact mu_fld _ _ _)
        go_wp2
        exact ⟨⟨false, l ++ [{ g with oneof := (xd.oneofs.length : Int) }], t1, o4, c4, la, lc, rfl, hid (by rw [if_neg (by decide), HRL.out, HON.out]), hid (by have := GL.out; rw [List.length_append]; exact this), hid (by have h1 := htb.out; have h2 := HLT.out; simp at h1 ⊢; omega)⟩, by rw [hm0, muW_is GL.out.sb]; have := HLT.out; simp only [firstW]; omega⟩
      | false =>
        have HRL := hid (hrl.out.trans (if_neg (by decide)))
        by_cases hcd : t.cd = 0
        · have k3 : (t.cd == 0) = true := by rw [hcd]; rfl
          cases hj : isM t [125] with
          | false =>
            have HSG := hid (oneLr_go (i := (xd.oneofs.length : Int)) (l := l) (s := t) hcd hj)
            replace hcd := hid hcd
            go_wp2_with fail
            refine (isR w0 b o c t _ ⟨#[125]⟩ [125] rfl (by decide) GR.out.st GR.out.un).mono ?_
            rintro e y0 ⟨rfl, hy0⟩
            rw [hj]
            have GY0 := hid (GR.out.kept hy0)
            clear hy0
            clear c_s f_s l_s c_d f_d l_d c_6 f_6 l_6 c_7 f_7 l_7
            have c_s := GY0.out.sb.cellF
            have f_s := GY0.out.sb.frz
            have l_s := GY0.out.sb.lt
            have c_d := GY0.out.db.cellF
            have f_d := GY0.out.db.frz
            have l_d := GY0.out.db.lt
            have c_6 := GY0.out.r6.cellF
            have f_6 := GY0.out.r6.frz
            have l_6 := GY0.out.r6.lt
            have c_7 := GY0.out.r7.cellF
            have f_7 := GY0.out.r7.frz
            have l_7 := GY0.out.r7.lt
            have HSG2 : Hid (oneL (xd.oneofs.length : Int) (l, t) = oneL (xd.oneofs.length : Int) (oneSt (xd.oneofs.length : Int) (l, t))) := HSG
            go_wp2_with fail
            refine (fieldR w0 b o c t _ 4 (0, 0) GY0.out.st GY0.out.un).mono ?_
            rintro e y1 ⟨⟨g, t1, o4, c4, hg, he4, rfl, hst4⟩, hy1⟩
            have GY1 := hid (GY0.out.kept hy1)
            have hz1 := hy1.size
            clear hy1
            clear c_s f_s l_s c_d f_d l_d c_6 f_6 l_6 c_7 f_7 l_7
            have c_s := GY1.out.sb.cellF
            have f_s := GY1.out.sb.frz
            have l_s := GY1.out.sb.lt
            have c_d := GY1.out.db.cellF
            have f_d := GY1.out.db.frz
            have l_d := GY1.out.db.lt
            have c_6 := GY1.out.r6.cellF
            have f_6 := GY1.out.r6.frz
            have l_6 := GY1.out.r6.lt
            have c_7 := GY1.out.r7.cellF
            have f_7 := GY1.out.r7.frz
            have l_7 := GY1.out.r7.lt
            go_upto_region 16 with fail
            have GZ : Hid (Mem w0 b w base n ((y1.alloc (.cells #[.string (strOfNums g.name), .string (strOfNums g.ty), .string (strOfNums g.key), .int .u64 g.num, .int .i64 g.label, .int .i64 g.packed, .int .i64 (xd.oneofs.length : Int), .int .i64 g.at1.1, .int .i64 g.at1.2, .int .i64 g.nat1.1, .int .i64 g.nat1.2, .int .i64 g.tat.1, .int .i64 g.tat.2, .int .i64 g.mat.1, .int .i64 g.mat.2] 78)).alloc (.cells #[.slice (some ⟨b, o4, none⟩) t1.l.length c4, .int .i64 t1.cd, .int .i64 0, .int .i64 t1.ln, .int .i64 t1.cl] 54)) o c t ⟨{ xd with fields := l, oneofs := xd.oneofs ++ [(⟨m.s, atM m⟩ : MO)] }, .slice va l.length vc, .slice za (xd.oneofs.length + 1) zc, .slice da xd.decls.length dc, .slice ra xd.res.length rc, .slice ya xd.syms.length yc⟩) := hid (GY1.out.kept (below_twor _ _))
            have Bf : Blk ((y1.alloc (.cells #[.string (strOfNums g.name), .string (strOfNums g.ty), .string (strOfNums g.key), .int .u64 g.num, .int .i64 g.label, .int .i64 g.packed, .int .i64 (xd.oneofs.length : Int), .int .i64 g.at1.1, .int .i64 g.at1.2, .int .i64 g.nat1.1, .int .i64 g.nat1.2, .int .i64 g.tat.1, .int .i64 g.tat.2, .int .i64 g.mat.1, .int .i64 g.mat.2] 78)).alloc (.cells #[.slice (some ⟨b, o4, none⟩) t1.l.length c4, .int .i64 t1.cd, .int .i64 0, .int .i64 t1.ln, .int .i64 t1.cl] 54)) (y1.heap.size) 78 #[.string (strOfNums g.name), .string (strOfNums g.ty), .string (strOfNums g.key), .int .u64 g.num, .int .i64 g.label, .int .i64 g.packed, .int .i64 (xd.oneofs.length : Int), .int .i64 g.at1.1, .int .i64 g.at1.2, .int .i64 g.nat1.1, .int .i64 g.nat1.2, .int .i64 g.tat.1, .int .i64 g.tat.2, .int .i64 g.mat.1, .int .i64 g.mat.2] := (Blk.newAt rfl).kept (below_alloc _)
            have Bx : Blk ((y1.alloc (.cells #[.string (strOfNums g.name), .string (strOfNums g.ty), .string (strOfNums g.key), .int .u64 g.num, .int .i64 g.label, .int .i64 g.packed, .int .i64 (xd.oneofs.length : Int), .int .i64 g.at1.1, .int .i64 g.at1.2, .int .i64 g.nat1.1, .int .i64 g.nat1.2, .int .i64 g.tat.1, .int .i64 g.tat.2, .int .i64 g.mat.1, .int .i64 g.mat.2] 78)).alloc (.cells #[.slice (some ⟨b, o4, none⟩) t1.l.length c4, .int .i64 t1.cd, .int .i64 0, .int .i64 t1.ln, .int .i64 t1.cl] 54)) (y1.heap.size + 1) 54 #[.slice (some ⟨b, o4, none⟩) t1.l.length c4, .int .i64 t1.cd, .int .i64 0, .int .i64 t1.ln, .int .i64 t1.cl] := Blk.newAt (by simp)
            clear c_s f_s l_s c_d f_d l_d c_6 f_6 l_6 c_7 f_7 l_7
            generalize ((y1.alloc (.cells #[.string (strOfNums g.name), .string (strOfNums g.ty), .string (strOfNums g.key), .int .u64 g.num, .int .i64 g.label, .int .i64 g.packed, .int .i64 (xd.oneofs.length : Int), .int .i64 g.at1.1, .int .i64 g.at1.2, .int .i64 g.nat1.1, .int .i64 g.nat1.2, .int .i64 g.tat.1, .int .i64 g.tat.2, .int .i64 g.mat.1, .int .i64 g.mat.2] 78)).alloc (.cells #[.slice (some ⟨b, o4, none⟩) t1.l.length c4, .int .i64 t1.cd, .int .i64 0, .int .i64 t1.ln, .int .i64 t1.cl] 54)) = wz at *
            have c_f := Bf.cellF
            have c_x := Bx.cellF
            have l_f := Bf.lt
            have l_x := Bx.lt
            have c_s := GZ.out.sb.cellF
            have f_s := GZ.out.sb.frz
            have l_s := GZ.out.sb.lt
            have c_d := GZ.out.db.cellF
            have f_d := GZ.out.db.frz
            have l_d := GZ.out.db.lt
            have c_6 := GZ.out.r6.cellF
            have f_6 := GZ.out.r6.frz
            have l_6 := GZ.out.r6.lt
            have c_7 := GZ.out.r7.cellF
            have f_7 := GZ.out.r7.frz
            have l_7 := GZ.out.r7.lt
            obtain ⟨la, lc, x3, HRUN, HGR, HB3, G3⟩ := GZ.out.moreF rfl (by have := htb.out; dsimp only; split at this <;> omega) { g with oneof := (xd.oneofs.length : Int) }
            dsimp only at HRUN HGR HB3 G3
            have Bx3 : Blk x3 (y1.heap.size + 1) 54 #[.slice (some ⟨b, o4, none⟩) t1.l.length c4, .int .i64 t1.cd, .int .i64 0, .int .i64 t1.ln, .int .i64 t1.cl] := growR_blk HGR.out GZ.out.own.f Bx (by decide)
            have c_3 := HB3.out.cellF
            have f_3 := HB3.out.frz
            have l_3 := HB3.out.lt
            go_upto_region 17 with (first | (at_builtin; refine wpList_append_ran rfl _ _ 69 69 rfl rfl _ _ (.slice la (l.length + 1) lc) x3 rfl rfl HRUN.out ?_))
            have Bx4 : Blk (x3.setCell ⟨w.heap.size + 1, 4, none⟩ (.slice la (l.length + 1) lc)) (y1.heap.size + 1) 54 #[.slice (some ⟨b, o4, none⟩) t1.l.length c4, .int .i64 t1.cd, .int .i64 0, .int .i64 t1.ln, .int .i64 t1.cl] := Bx3.other (show y1.heap.size + 1 ≠ w.heap.size + 1 by have := GY1.out.r7.lt; omega) _
            clear c_s f_s l_s c_d f_d l_d c_6 f_6 l_6 c_7 f_7 l_7 c_3 f_3 l_3 c_f c_x l_f l_x Bx3 HB3 HRUN HGR Bf Bx
            generalize (x3.setCell ⟨w.heap.size + 1, 4, none⟩ (.slice la (l.length + 1) lc)) = x4 at *
            have c_x := Bx4.cellF
            have l_x := Bx4.lt
            have c_s := G3.out.sb.cellF
            have f_s := G3.out.sb.frz
            have l_s := G3.out.sb.lt
            have c_d := G3.out.db.cellF
            have f_d := G3.out.db.frz
            have l_d := G3.out.db.lt
            have c_6 := G3.out.r6.cellF
            have f_6 := G3.out.r6.frz
            have l_6 := G3.out.r6.lt
            have c_7 := G3.out.r7.cellF
            have f_7 := G3.out.r7.frz
            have l_7 := G3.out.r7.lt
            have GL := hid (G3.out.setS hst4.out)
            have HON : Hid (oneSt (xd.oneofs.length : Int) (l, t) = (l ++ [{ g with oneof := (xd.oneofs.length : Int) }], t1)) := hid (by unfold oneSt oneM; dsimp only; rw [← hg.out, ← he4.out])
            have HLT : Hid (muM t1 < muM t) := hid (by rw [he4.out]; exact mu_fld_lt hcd.out _ _)
            go_wp2
            exact ⟨⟨false, l ++ [{ g with oneof := (xd.oneofs.length : Int) }], t1, o4, c4, la, lc, rfl, hid (by rw [if_neg (by decide), HRL.out, HSG2.out, HON.out]), hid (by have := GL.out; rw [List.length_append]; exact this), hid (by have h1 := htb.out; have h2 := HLT.out; simp at h1 ⊢; omega)⟩, by rw [hm0, muW_is GL.out.sb]; have := HLT.out; simp only [firstW]; omega⟩
          | true =>
            have HSS := hid (oneLr_stop (i := (xd.oneofs.length : Int)) (l := l) hj)
            replace hcd := hid hcd
            go_wp2_with fail
            refine (isR w0 b o c t _ ⟨#[125]⟩ [125] rfl (by decide) GR.out.st GR.out.un).mono ?_
            rintro e y0 ⟨rfl, hy0⟩
            rw [hj]
            have GY0 := hid (GR.out.kept hy0)
            clear hy0
            clear c_s f_s l_s c_d f_d l_d c_6 f_6 l_6 c_7 f_7 l_7
            have c_s := GY0.out.sb.cellF
            have f_s := GY0.out.sb.frz
            have l_s := GY0.out.sb.lt
            have c_d := GY0.out.db.cellF
            have f_d := GY0.out.db.frz
            have l_d := GY0.out.db.lt
            have c_6 := GY0.out.r6.cellF
            have f_6 := GY0.out.r6.frz
            have l_6 := GY0.out.r6.lt
            have c_7 := GY0.out.r7.cellF
            have f_7 := GY0.out.r7.frz
            have l_7 := GY0.out.r7.lt
            go_wp2_with fail
            have Bd : Blk y0 (w.heap.size + 1) 74 #[.bool xd.enum, .string (strOfNums xd.name), .int .i64 xd.at1.1, .int .i64 xd.at1.2, .slice va l.length vc, .slice za (xd.oneofs.length + 1) zc, .slice da xd.decls.length dc, .slice ra xd.res.length rc, .slice ya xd.syms.length yc] := GY0.out.db
            have Bs : Blk y0 w.heap.size 54 #[.slice (some ⟨b, o, none⟩) t.l.length c, .int .i64 t.cd, .int .i64 0, .int .i64 t.ln, .int .i64 t.cl] := GY0.out.sb
            go_region_held3 (fun W => (W.cell? ⟨w.heap.size + 1, 0, none⟩ = some (.bool xd.enum) ∧ W.cell? ⟨w.heap.size + 1, 1, none⟩ = some (.string (strOfNums xd.name)) ∧ W.cell? ⟨w.heap.size + 1, 2, none⟩ = some (.int .i64 xd.at1.1) ∧ W.cell? ⟨w.heap.size + 1, 3, none⟩ = some (.int .i64 xd.at1.2) ∧ W.cell? ⟨w.heap.size + 1, 4, none⟩ = some (.slice va l.length vc) ∧ W.cell? ⟨w.heap.size + 1, 5, none⟩ = some (.slice za (xd.oneofs.length + 1) zc) ∧ W.cell? ⟨w.heap.size + 1, 6, none⟩ = some (.slice da xd.decls.length dc) ∧ W.cell? ⟨w.heap.size + 1, 7, none⟩ = some (.slice ra xd.res.length rc) ∧ W.cell? ⟨w.heap.size + 1, 8, none⟩ = some (.slice ya xd.syms.length yc)) ∧ (W.cell? ⟨w.heap.size, 0, none⟩ = some (.slice (some ⟨b, o, none⟩) t.l.length c) ∧ W.cell? ⟨w.heap.size, 1, none⟩ = some (.int .i64 t.cd) ∧ W.cell? ⟨w.heap.size, 2, none⟩ = some (.int .i64 0) ∧ W.cell? ⟨w.heap.size, 3, none⟩ = some (.int .i64 t.ln) ∧ W.cell? ⟨w.heap.size, 4, none⟩ = some (.int .i64 t.cl))) ((refine ⟨blkc9 (t := 74) ?_, blkc5 (t := 54) ?_⟩ <;> (with_reducible repeat (first | exact Vd.out | exact Vs.out | exact Bd | exact Bs | refine Blk.oth ?_ | refine Blk.kept ?_ (below_drew1 _) | refine Blk.kept ?_ (below_alloc _))); done)) (first | (go_at_call 18; refine (eatR w0 b o c t _ ⟨#[125]⟩ [125] rfl (by decide) GY0.out.st (bl_then GY0.out.un (by exact blBy))).mono ?_; rintro e u9 ⟨⟨s9, o9, c9, he9, rfl, hst9⟩, hbu⟩; have G9 := hid (GY0.out.kept (bl_then (by exact blBy) hbu)); have Vd : Hid (Blk u9 (w.heap.size + 1) 74 #[.bool xd.enum, .string (strOfNums xd.name), .int .i64 xd.at1.1, .int .i64 xd.at1.2, .slice va l.length vc, .slice za (xd.oneofs.length + 1) zc, .slice da xd.decls.length dc, .slice ra xd.res.length rc, .slice ya xd.syms.length yc]) := hid G9.out.db; have Vs : Hid (Blk u9 w.heap.size 54 #[.slice (some ⟨b, o, none⟩) t.l.length c, .int .i64 t.cd, .int .i64 0, .int .i64 t.ln, .int .i64 t.cl]) := hid G9.out.sb; have vx6 := G9.out.r6.cellF; have vy6 := G9.out.r6.frz; have vl6 := G9.out.r6.lt; have vx7 := G9.out.r7.cellF; have vy7 := G9.out.r7.frz; have vl7 := G9.out.r7.lt; have hsu := hbu.size; (try simp at hsu); replace hst9 := hid hst9; clear hbu))
            all_goals go_wp2
            all_goals exact bodyPost_ret (v := .tuple #[.agg #[.bool xd.enum, .string (strOfNums xd.name), .int .i64 xd.at1.1, .int .i64 xd.at1.2, .slice va l.length vc, .slice za (xd.oneofs.length + 1) zc, .slice da xd.decls.length dc, .slice ra xd.res.length rc, .slice ya xd.syms.length yc], .agg #[.slice (some ⟨b, o9, none⟩) s9.l.length c9, .int .i64 s9.cd, .int .i64 0, .int .i64 s9.ln, .int .i64 s9.cl]]) (by simp [results, Tryz.results47, go_sem, vx6, vx7, vl6, vl7]) rfl (MemR.is _ s9 o9 c9 (hid (by rw [HX.out, HRL.out, HSS.out])) (hid (by rw [HX.out, HRL.out, HSS.out]; exact he9.out)) rfl (G9.out.fin (by exact kpBy)).1 hst9 (G9.out.fin (by exact kpBy)).2)
        · have k3 : (t.cd == 0) = false := by simpa using hcd
          have HSS := hid (oneL_bad hcd (xd.oneofs.length : Int) l)
          replace hcd := hid hcd
          go_wp2_with fail
          have Bd : Blk wr (w.heap.size + 1) 74 #[.bool xd.enum, .string (strOfNums xd.name), .int .i64 xd.at1.1, .int .i64 xd.at1.2, .slice va l.length vc, .slice za (xd.oneofs.length + 1) zc, .slice da xd.decls.length dc, .slice ra xd.res.length rc, .slice ya xd.syms.length yc] := GR.out.db
          have Bs : Blk wr w.heap.size 54 #[.slice (some ⟨b, o, none⟩) t.l.length c, .int .i64 t.cd, .int .i64 0, .int .i64 t.ln, .int .i64 t.cl] := GR.out.sb
          go_region_held3 (fun W => (W.cell? ⟨w.heap.size + 1, 0, none⟩ = some (.bool xd.enum) ∧ W.cell? ⟨w.heap.size + 1, 1, none⟩ = some (.string (strOfNums xd.name)) ∧ W.cell? ⟨w.heap.size + 1, 2, none⟩ = some (.int .i64 xd.at1.1) ∧ W.cell? ⟨w.heap.size + 1, 3, none⟩ = some (.int .i64 xd.at1.2) ∧ W.cell? ⟨w.heap.size + 1, 4, none⟩ = some (.slice va l.length vc) ∧ W.cell? ⟨w.heap.size + 1, 5, none⟩ = some (.slice za (xd.oneofs.length + 1) zc) ∧ W.cell? ⟨w.heap.size + 1, 6, none⟩ = some (.slice da xd.decls.length dc) ∧ W.cell? ⟨w.heap.size + 1, 7, none⟩ = some (.slice ra xd.res.length rc) ∧ W.cell? ⟨w.heap.size + 1, 8, none⟩ = some (.slice ya xd.syms.length yc)) ∧ (W.cell? ⟨w.heap.size, 0, none⟩ = some (.slice (some ⟨b, o, none⟩) t.l.length c) ∧ W.cell? ⟨w.heap.size, 1, none⟩ = some (.int .i64 t.cd) ∧ W.cell? ⟨w.heap.size, 2, none⟩ = some (.int .i64 0) ∧ W.cell? ⟨w.heap.size, 3, none⟩ = some (.int .i64 t.ln) ∧ W.cell? ⟨w.heap.size, 4, none⟩ = some (.int .i64 t.cl))) ((refine ⟨blkc9 (t := 74) ?_, blkc5 (t := 54) ?_⟩ <;> (with_reducible repeat (first | exact Vd.out | exact Vs.out | exact Bd | exact Bs | refine Blk.oth ?_ | refine Blk.kept ?_ (below_drew1 _) | refine Blk.kept ?_ (below_alloc _))); done)) (first | (go_at_call 18; refine (eatR w0 b o c t _ ⟨#[125]⟩ [125] rfl (by decide) GR.out.st (bl_then GR.out.un (by exact blBy))).mono ?_; rintro e u9 ⟨⟨s9, o9, c9, he9, rfl, hst9⟩, hbu⟩; have G9 := hid (GR.out.kept (bl_then (by exact blBy) hbu)); have Vd : Hid (Blk u9 (w.heap.size + 1) 74 #[.bool xd.enum, .string (strOfNums xd.name), .int .i64 xd.at1.1, .int .i64 xd.at1.2, .slice va l.length vc, .slice za (xd.oneofs.length + 1) zc, .slice da xd.decls.length dc, .slice ra xd.res.length rc, .slice ya xd.syms.length yc]) := hid G9.out.db; have Vs : Hid (Blk u9 w.heap.size 54 #[.slice (some ⟨b, o, none⟩) t.l.length c, .int .i64 t.cd, .int .i64 0, .int .i64 t.ln, .int .i64 t.cl]) := hid G9.out.sb; have vx6 := G9.out.r6.cellF; have vy6 := G9.out.r6.frz; have vl6 := G9.out.r6.lt; have vx7 := G9.out.r7.cellF; have vy7 := G9.out.r7.frz; have vl7 := G9.out.r7.lt; have hsu := hbu.size; (try simp at hsu); replace hst9 := hid hst9; clear hbu))
          all_goals go_wp2
          all_goals exact bodyPost_ret (v := .tuple #[.agg #[.bool xd.enum, .string (strOfNums xd.name), .int .i64 xd.at1.1, .int .i64 xd.at1.2, .slice va l.length vc, .slice za (xd.oneofs.length + 1) zc, .slice da xd.decls.length dc, .slice ra xd.res.length rc, .slice ya xd.syms.length yc], .agg #[.slice (some ⟨b, o9, none⟩) s9.l.length c9, .int .i64 s9.cd, .int .i64 0, .int .i64 s9.ln, .int .i64 s9.cl]]) (by simp [results, Tryz.results47, go_sem, vx6, vx7, vl6, vl7]) rfl (MemR.is _ s9 o9 c9 (hid (by rw [HX.out, HRL.out, HSS.out])) (hid (by rw [HX.out, HRL.out, HSS.out]; exact he9.out)) rfl (G9.out.fin (by exact kpBy)).1 hst9 (G9.out.fin (by exact kpBy)).2)
end
section
variable (w0 : World) (b off cap : Nat) (s : PS) (w : World) (base n : Nat)
theorem memberR (x : DV) (depth : Int) (sub : PS → MD × PS) (hsub : ∀ W, Below w0.heap.size w0 W → Calls Tryz.prog 22 #[.agg #[.slice (some ⟨b, off, none⟩) s.l.length cap, .int .i64 s.cd, .int .i64 0, .int .i64 s.ln, .int .i64 s.cl], .int .i64 (depth + 1)] W (DclR w0 b n (sub s) W)) (hd0 : 0 ≤ depth) (hd8 : depth ≤ 8) (htot : tot x.d + 3 * muM s ≤ 300000) (h : StR w0 b off cap s) (hb : Below w0.heap.size w0 w) (hw : w0.heap.size ≤ base) (hlo : base ≤ w.heap.size) (ho : OwnD w base n 78 139 74 136 126 (fun _ => False) x) : Calls Tryz.prog 47 #[.agg #[.slice (some ⟨b, off, none⟩) s.l.length cap, .int .i64 s.cd, .int .i64 0, .int .i64 s.ln, .int .i64 s.cl], .agg #[.bool x.d.enum, .string (strOfNums x.d.name), .int .i64 x.d.at1.1, .int .i64 x.d.at1.2, x.f, x.o, x.dd, x.r, x.s], .int .i64 depth] w (MemR w0 b base n (memM sub (x.d, s)) w) := by
  by_cases h1 : isM s wMessage = true
  · rw [show memM sub (x.d, s) = ({ x.d with decls := x.d.decls ++ [(sub s).1] }, (sub s).2) by unfold memM; rw [if_pos (Or.inl h1)]]
    exact memR_msg w0 b off cap s w base n x depth sub hsub hd0 hd8 h1 htot h hb hw hlo ho
  by_cases h2 : isM s wEnum = true
  · rw [show memM sub (x.d, s) = ({ x.d with decls := x.d.decls ++ [(sub s).1] }, (sub s).2) by unfold memM; rw [if_pos (Or.inr h2)]]
    exact memR_enum w0 b off cap s w base n x depth sub hsub hd0 hd8 h2 htot h hb hw hlo ho
  have h12 : ¬ (isM s wMessage = true ∨ isM s wEnum = true) := fun h => h.elim h1 h2
  by_cases h3 : isM s wOneof = true
  · rw [show memM sub (x.d, s) = oneofM x.d s by unfold memM; rw [if_neg h12, if_pos h3]]
    exact memR_oneof w0 b off cap s w base n x depth h3 htot h hb hw hlo ho
  by_cases h4 : isM s wReserved = true
  · rw [show memM sub (x.d, s) = resM x.d s by unfold memM; rw [if_neg h12, if_neg h3, if_pos h4]]
    exact memR_res w0 b off cap s w base n x depth h4 htot h hb hw hlo ho
  by_cases h5 : isM s wMap = true
  · rw [show memM sub (x.d, s) = ({ x.d with fields := x.d.fields ++ [(prsM s).1] }, (prsM s).2) by unfold memM; rw [if_neg h12, if_neg h3, if_neg h4, if_pos h5]]
    exact memR_map w0 b off cap s w base n x depth h5 htot h hb hw hlo ho
  by_cases h7 : isM s wRepeated = true
  · have hl : labM s = 2 := by unfold labM; rw [if_pos h7]
    rw [show memM sub (x.d, s) = ({ x.d with fields := x.d.fields ++ [(fldM (nxM s) 2 (atM (hdM s))).1] }, (fldM (nxM s) 2 (atM (hdM s))).2) by unfold memM; rw [if_neg h12, if_neg h3, if_neg h4, if_neg h5, hl, if_neg (by decide)]]
    exact memR_rep w0 b off cap s w base n x depth h7 htot h hb hw hlo ho
  by_cases h6 : isM s wOptional = true
  · have hl : labM s = 1 := by unfold labM; rw [if_neg h7, if_pos h6]
    rw [show memM sub (x.d, s) = ({ x.d with fields := x.d.fields ++ [(fldM (nxM s) 1 (atM (hdM s))).1] }, (fldM (nxM s) 1 (atM (hdM s))).2) by unfold memM; rw [if_neg h12, if_neg h3, if_neg h4, if_neg h5, hl, if_neg (by decide)]]
    exact memR_opt w0 b off cap s w base n x depth h6 htot h hb hw hlo ho
  have hl : labM s = 0 := by unfold labM; rw [if_neg h7, if_neg h6]
  rw [show memM sub (x.d, s) = ({ x.d with fields := x.d.fields ++ [(fldM s 0 (0, 0)).1] }, (fldM s 0 (0, 0)).2) by unfold memM; rw [if_neg h12, if_neg h3, if_neg h4, if_neg h5, hl, if_pos rfl]]
  have b1 : ∀ {c : Bool}, ¬ c = true → c = false := fun {c} h => by cases c <;> simp_all
  exact memR_plain w0 b off cap s w base n x depth (b1 h1) (b1 h2) (b1 h3) (b1 h4) (b1 h5) (b1 h6) (b1 h7) htot h hb hw hlo ho
end
end Go.Proofs.YtidimdbnnnpplaaGreatDoor
