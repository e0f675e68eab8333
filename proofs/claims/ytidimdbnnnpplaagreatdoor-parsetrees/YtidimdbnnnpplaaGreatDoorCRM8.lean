/-
  The document's Parse.
  ParseTrees: both answers, compared.
-/
import Derived.Test.YtidimdbnnnpplaaGreatDoorCRM6
import Derived.Deep.RegionHeld3
import Derived.Deep.CutRange
import Derived.Test.YtidimdbnnnpplaaGreatDoorCP4
import Derived.Test.YtidimdbnnnpplaaGreatDoorCP9b
namespace Go.Proofs.YtidimdbnnnpplaaGreatDoor
open Go.RowKit
set_option maxRecDepth 1000000
set_option linter.unusedVariables false
set_option linter.unusedSimpArgs false
set_option maxHeartbeats 8000000
theorem parseR (xs : List Int) (w : World) (hb : ∀ x ∈ xs, 0 ≤ x ∧ x ≤ 255) (hm : xs.length ≤ 9223372036854775807) : Calls Tryz.prog 7 #[.string (strOfNums xs)] w fun e w' => ParseG w (parseE xs) e w' := by
  have HSP := hid (refR xs ((w.alloc (.cells #[.slice none 0 0, .slice none 0 0] 34)).alloc (.cells #[.int .i64 0, .int .i64 0, .int .i64 0, .int .i64 0] 28)) hb hm)
  have HW := hid (outE_ws hb)
  unfold parseE
  clear hb hm
  generalize outE xs = g at *
  obtain ⟨ms, cd, l, c⟩ := g
  go_enter Tryz.func7, Tryz.ntmps7
  go_wp2_with fail
  refine HSP.out.mono ?_
  rintro e w1 ⟨a, k, rfl, hr, hb1⟩
  dsimp only at hr HW
  have B1 : Blk w1 w.heap.size 34 #[.slice none 0 0, .slice none 0 0] := Blk.kept ((Blk.newAt (w := w) rfl).kept (below_alloc _)) hb1
  have B2 : Blk w1 (w.heap.size + 1) 28 #[.int .i64 0, .int .i64 0, .int .i64 0, .int .i64 0] := Blk.kept (Blk.newAt (by simp)) hb1
  have hs1 := hb1.size
  try simp at hs1
  have HB1 := hid (below_trans (below_twor _ _) hb1)
  have HRW := hid hr
  clear hb1 hr HSP
  by_cases hcd : cd = 0
  case neg =>
    have k0 : (cd == 0) = false := by simpa using hcd
    have HG : Hid (parseG (ms, cd, l, c) = (⟨[], []⟩, cd, l, c)) := hid (by unfold parseG; rw [if_neg hcd])
    clear HW
    have x1 := B1.cellF
    have y1 := B1.frz
    have z1 := B1.lt
    have x2 := B2.cellF
    have y2 := B2.frz
    have z2 := B2.lt
    go_wp2_with fail
    go_region
    all_goals go_wp2
    all_goals exact bodyPost_ret (v := .tuple #[.agg #[.slice none 0 0, .slice none 0 0], .agg #[.int .i64 cd, .int .i64 0, .int .i64 l, .int .i64 c]]) (by simp [results, Tryz.results7, go_sem, x1, x2, z1, z2]) rfl ⟨none, 0, 0, none, 0, 0, by rw [HG.out], by have := HB1.out; exact blBy, hid (by rw [HG.out]; exact fileR_nil _ _)⟩
  subst hcd
  have HWs := HW.out rfl
  have HG : Hid (parseG (ms, 0, l, c) = if (wsM ms).2.cd = 0 then ((wsM ms).1, 0, 0, 0) else (⟨[], []⟩, (wsM ms).2.cd, (wsM ms).2.ln, (wsM ms).2.cl)) := hid rfl
  obtain ⟨m0, mr, hms⟩ := HWs.ne
  obtain ⟨bw, ow, rfl⟩ : ∃ bw ow, a = some ⟨bw, ow, none⟩ := by
    rcases HRW.out.cells with ⟨h0, _⟩ | ⟨bw, ow, e, _⟩
    · rw [hms] at h0; simp at h0
    · exact ⟨bw, ow, e⟩
  have HST : Hid (StR w1 bw ow k ⟨ms, 0, 0, 0⟩) := hid ⟨HRW.out, HWs⟩
  have HL : Hid (ms.length ≤ 70000) := hid HWs.len
  clear hms HWs HW m0 mr HRW
  have x1 := B1.cellF
  have y1 := B1.frz
  have z1 := B1.lt
  have x2 := B2.cellF
  have y2 := B2.frz
  have z2 := B2.lt
  go_wp2
  go_loopw [] (fun wr => ∃ t s o c x, Hid (wsM ms = filL (t, s)) ∧ Hid (x.d = toD t) ∧ Hid (Fil w1 bw wr o c s x) ∧ Hid (t.imps.length + t.decls.length + 3 * muM s ≤ 300000)) (fun wr => muW wr (w1.heap.size + 1))
  case atStart =>
    refine ⟨⟨[], []⟩, ⟨ms, 0, 0, 0⟩, ow, k, ⟨toD ⟨[], []⟩, .slice none 0 0, .slice none 0 0, .slice none 0 0, .slice none 0 0, .slice none 0 0⟩, hid rfl, hid rfl, hid ⟨HST.out, by exact blBy, ?_, ?_, OwnD.nil _ _ _ _ _ _ _ _ _ (fun k hk => by have := hk.2; simp; omega) _ _ _⟩, hid (by have := HL.out; unfold muM; simp; omega)⟩
    · exact (Blk.newAt (by simp)).kept (below_alloc _)
    · exact Blk.newAt (by simp)
  case round =>
    obtain ⟨t, s, o, c', x, hrl, hxt, GR, htot⟩ := hrel
    obtain ⟨oa, oc, da, dc, eo, ed⟩ := GR.out.shape
    obtain ⟨xd, xf, xo, xdd, xr, xs⟩ := x
    dsimp only at eo ed hxt
    have hxt' := hxt.out
    subst hxt'
    subst eo ed
    clear hxt
    have hm0 := muW_is GR.out.sb
    have HTL : Hid ((toD t).oneofs.length ≤ 300000 ∧ (toD t).decls.length ≤ 300000) := hid (by have := htot.out; unfold toD; simp; omega)
    have R1 := B1.kept GR.out.un
    have R2 := B2.kept GR.out.un
    clear x1 y1 z1 x2 y2 z2
    have x1 := R1.cellF
    have y1 := R1.frz
    have z1 := R1.lt
    have x2 := R2.cellF
    have y2 := R2.frz
    have z2 := R2.lt
    have zw := GR.out.un.size
    have cs := GR.out.sb.cellF
    have fs := GR.out.sb.frz
    have ls := GR.out.sb.lt
    have co := GR.out.ob.cellF
    have fo := GR.out.ob.frz
    have lo := GR.out.ob.lt
    by_cases hcd : s.cd = 0
    case neg =>
      have k0 : (s.cd == 0) = false := by simpa using hcd
      have HFB := hid (filL_bad (t := t) hcd)
      have HGG : Hid (parseG (ms, 0, l, c) = (⟨[], []⟩, s.cd, s.ln, s.cl)) := hid (by rw [HG.out, hrl.out, HFB.out]; dsimp only; rw [if_neg hcd])
      replace hcd := hid hcd
      go_wp2_with fail
      go_region
      all_goals go_wp2
      all_goals exact bodyPost_ret (v := .tuple #[.agg #[.slice none 0 0, .slice none 0 0], .agg #[.int .i64 s.cd, .int .i64 0, .int .i64 s.ln, .int .i64 s.cl]]) (by simp [results, Tryz.results7, go_sem, x1, x2, z1, z2]) rfl ⟨none, 0, 0, none, 0, 0, by rw [HGG.out], by have := bl_then HB1.out GR.out.un; exact blBy, hid (by rw [HGG.out]; exact fileR_nil _ _)⟩
    have k0 : (s.cd == 0) = true := by rw [hcd]; rfl
    obtain ⟨ha, hc, e0, e1, e2, e3, e4, e5, _, hB⟩ := GR.out.st.head GR.out.un
    obtain ⟨hp, hq, hr⟩ := GR.out.st.pos
    have hp0 : (0 : Int) < (s.l.length : Int) := by omega
    have hp3 : (s.l.length : Int) ≤ 9223372036854775807 := by omega
    have hB2 : bw < wr.heap.size := Nat.lt_of_lt_of_le hB GR.out.un.size
    clear e1 e2 e3 e4 e5 hB hq hr
    by_cases hE : (hdM s).kind = 5
    · have HSG := hid (filL_stop (t := t) hE)
      have HGG : Hid (parseG (ms, 0, l, c) = (t, 0, 0, 0)) := hid (by rw [HG.out, hrl.out, HSG.out]; dsimp only; rw [if_pos hcd])
      have hEi : ((hdM s).kind == 5) = true := by rw [hE]; rfl
      go_wp2
      exact bodyPost_ret (v := .tuple #[.agg #[.slice oa (toD t).oneofs.length oc, .slice da (toD t).decls.length dc], .agg #[.int .i64 0, .int .i64 0, .int .i64 0, .int .i64 0]]) (by simp [results, Tryz.results7, go_sem, x1, x2, z1, z2, co]) rfl ⟨oa, _, oc, da, _, dc, by rw [HGG.out], by have := bl_then HB1.out GR.out.un; exact blBy, hid (by rw [HGG.out]; exact Fil.fin GR.out w (by omega) (by have := Keep.refl (fun k => w1.heap.size ≤ k) wr; (with_reducible repeat (first | assumption | refine Keep.trans ?_ (Keep.setCell _ _ _ (by simp; omega))))) rfl rfl rfl)⟩
    · have hEi : ((hdM s).kind == 5) = false := by simpa using hE
      have HSG := hid (filL_go (t := t) (s := s) hcd hE)
      have HDEC : Hid (muM (filSt (t, s)).2 < muM s) := hid (fil_dec (t, s) (by unfold filC; simp [hE, hcd]))
      have HTOT : Hid ((filSt (t, s)).1.imps.length + (filSt (t, s)).1.decls.length + 3 * muM (filSt (t, s)).2 ≤ t.imps.length + t.decls.length + 3 * muM s) := hid (fil_tot (t, s) (by unfold filC; simp [hE, hcd]))
      replace hcd := hid hcd
      cases h0 : isM s wImport with
      | true =>
        have HST2 : Hid (filSt (t, s) = (⟨t.imps ++ [(impM s).1], t.decls⟩, (impM s).2)) := hid (by unfold filSt; rw [if_pos h0])
        rw [HST2.out] at HDEC HTOT
        go_wp2_with fail
        refine (isR w1 bw o c' s _ ⟨#[105, 109, 112, 111, 114, 116]⟩ wImport rfl (by decide) GR.out.st GR.out.un).mono ?_
        rintro e u1 ⟨rfl, hb1⟩
        have GU1 := hid (GR.out.kept hb1)
        have hs1 := hb1.size
        try simp at hs1
        clear hb1
        clear cs fs ls co fo lo
        have cs := GU1.out.sb.cellF
        have fs := GU1.out.sb.frz
        have ls := GU1.out.sb.lt
        have co := GU1.out.ob.cellF
        have fo := GU1.out.ob.frz
        have lo := GU1.out.ob.lt
        rw [h0]
        go_wp2_with fail
        refine (eatR w1 bw o c' s _ ⟨#[105, 109, 112, 111, 114, 116]⟩ wImport rfl (by decide) GU1.out.st GU1.out.un).mono ?_
        rintro e u2 ⟨⟨s1, o1, c1, he1, rfl, hst1⟩, hb2⟩
        have GU2 := hid (GU1.out.kept hb2)
        have hs2 := hb2.size
        try simp at hs2
        clear hb2
        clear cs fs ls co fo lo
        have cs := GU2.out.sb.cellF
        have fs := GU2.out.sb.frz
        have ls := GU2.out.sb.lt
        have co := GU2.out.ob.cellF
        have fo := GU2.out.ob.frz
        have lo := GU2.out.ob.lt
        replace hst1 := hid hst1
        have GS2 := hid (GU2.out.setS hst1.out)
        go_wp2_with fail
        refine (takeR w1 bw o1 c1 s1 _ 3 (by decide) (by decide) hst1.out GS2.out.un).mono ?_
        rintro e u3 ⟨⟨m, s2, sa, sc, o2, c2, hm, he2, rfl, hr2, hok, hst2⟩, hb3⟩
        have GU3 := hid (GS2.out.kept hb3)
        have hs3 := hb3.size
        try simp at hs3
        clear hb3
        clear cs fs ls co fo lo
        have cs := GU3.out.sb.cellF
        have fs := GU3.out.sb.frz
        have ls := GU3.out.sb.lt
        have co := GU3.out.ob.cellF
        have fo := GU3.out.ob.frz
        have lo := GU3.out.ob.lt
        go_upto_region 10 with fail
        have GZ : Hid (Fil w1 bw ((u3.alloc (.cells #[.int .i64 m.kind, .string (strOfNums m.s), .int .u64 m.n, .slice sa m.b.length sc, .int .i64 m.line, .int .i64 m.col] 58)).alloc (.cells #[.slice (some ⟨bw, o2, none⟩) s2.l.length c2, .int .i64 s2.cd, .int .i64 0, .int .i64 s2.ln, .int .i64 s2.cl] 54)) o1 c1 s1 ⟨toD t, xf, .slice oa (toD t).oneofs.length oc, .slice da (toD t).decls.length dc, xr, xs⟩) := hid (GU3.out.kept (below_twor _ _))
        have Bm : Blk ((u3.alloc (.cells #[.int .i64 m.kind, .string (strOfNums m.s), .int .u64 m.n, .slice sa m.b.length sc, .int .i64 m.line, .int .i64 m.col] 58)).alloc (.cells #[.slice (some ⟨bw, o2, none⟩) s2.l.length c2, .int .i64 s2.cd, .int .i64 0, .int .i64 s2.ln, .int .i64 s2.cl] 54)) (u3.heap.size) 58 #[.int .i64 m.kind, .string (strOfNums m.s), .int .u64 m.n, .slice sa m.b.length sc, .int .i64 m.line, .int .i64 m.col] := (Blk.newAt rfl).kept (below_alloc _)
        have Bx : Blk ((u3.alloc (.cells #[.int .i64 m.kind, .string (strOfNums m.s), .int .u64 m.n, .slice sa m.b.length sc, .int .i64 m.line, .int .i64 m.col] 58)).alloc (.cells #[.slice (some ⟨bw, o2, none⟩) s2.l.length c2, .int .i64 s2.cd, .int .i64 0, .int .i64 s2.ln, .int .i64 s2.cl] 54)) (u3.heap.size + 1) 54 #[.slice (some ⟨bw, o2, none⟩) s2.l.length c2, .int .i64 s2.cd, .int .i64 0, .int .i64 s2.ln, .int .i64 s2.cl] := Blk.newAt (by simp)
        have nmo : u3.heap.size ≠ w1.heap.size + 1 + 1 := by have := GU3.out.ob.lt; omega
        have nxo : u3.heap.size + 1 ≠ w1.heap.size + 1 + 1 := by have := GU3.out.ob.lt; omega
        clear cs fs ls co fo lo x1 y1 z1 x2 y2 z2 e0 hB2 zw
        generalize ((u3.alloc (.cells #[.int .i64 m.kind, .string (strOfNums m.s), .int .u64 m.n, .slice sa m.b.length sc, .int .i64 m.line, .int .i64 m.col] 58)).alloc (.cells #[.slice (some ⟨bw, o2, none⟩) s2.l.length c2, .int .i64 s2.cd, .int .i64 0, .int .i64 s2.ln, .int .i64 s2.cl] 54)) = wz at *
        have hcv : Hid (∀ W : World, Below w1.heap.size w1 W → (convert 56 9 (.slice sa m.b.length sc)).run Tryz.prog W = .ok (.string (strOfNums m.b)) W) := hid (fun W g => conv (reads_kept hr2.out g))
        go_cut [] from 24 to 79 (fun wc => ∃ za zc, Hid (Fil w1 bw wc o1 c1 s1 ⟨toD ⟨t.imps ++ [⟨m.b, atM m⟩], t.decls⟩, xf, .slice za ((toD t).oneofs.length + 1) zc, .slice da (toD t).decls.length dc, xr, xs⟩) ∧ Hid (Blk wc (u3.heap.size + 1) 54 #[.slice (some ⟨bw, o2, none⟩) s2.l.length c2, .int .i64 s2.cd, .int .i64 0, .int .i64 s2.ln, .int .i64 s2.cl]))
        case first =>
          have cs := GZ.out.sb.cellF
          have fs := GZ.out.sb.frz
          have ls := GZ.out.sb.lt
          have co := GZ.out.ob.cellF
          have fo := GZ.out.ob.frz
          have lo := GZ.out.ob.lt
          have xm := Bm.cellF
          have lm := Bm.lt
          have HUN := hid GZ.out.un
          refine wp_region_held_drew (S := (fun W => (W.cell? ⟨u3.heap.size, 0, none⟩ = some (.int .i64 m.kind) ∧ W.cell? ⟨u3.heap.size, 1, none⟩ = some (.string (strOfNums m.s)) ∧ W.cell? ⟨u3.heap.size, 2, none⟩ = some (.int .u64 m.n) ∧ W.cell? ⟨u3.heap.size, 3, none⟩ = some (.slice sa m.b.length sc) ∧ W.cell? ⟨u3.heap.size, 4, none⟩ = some (.int .i64 m.line) ∧ W.cell? ⟨u3.heap.size, 5, none⟩ = some (.int .i64 m.col)) ∧ (convert 56 9 (.slice sa m.b.length sc)).run Tryz.prog W = .ok (.string (strOfNums m.b)) W)) (by kernel_rfl) ?_ (fun hHeld => ?_)
          · exact ⟨blkc6 (t := 58) (Bm.kept (below_drew1 _)), hcv.out _ (bl_drew HUN.out)⟩
          refine wpAnyH_take (i := 0) (v := ?_) rfl (by kernel_rfl) (by kernel_rfl) (by kernel_rfl) (fun _ _ _ h => h) (Or.inl ⟨by rfl, ?_⟩) (by assumption) ?_
          rotate_left
          · (intro w hSw; (try dsimp only at hSw); go_simp; (try with_reducible rfl))
          try simp only [Act.put, List.setIfInBounds_toArray, List.set_cons_zero, List.set_cons_succ]
          refine wpAnyH_take (i := 2) (v := ?_) rfl (by kernel_rfl) (by kernel_rfl) (by kernel_rfl) (fun _ _ _ h => h) (Or.inl ⟨by rfl, ?_⟩) (by assumption) ?_
          rotate_left
          · (intro w hSw; (try dsimp only at hSw); go_simp; (try with_reducible rfl))
          try simp only [Act.put, List.setIfInBounds_toArray, List.set_cons_zero, List.set_cons_succ]
          refine wpAnyH_take (i := 3) (v := ?_) rfl (by kernel_rfl) (by kernel_rfl) (by kernel_rfl) (fun _ _ _ h => h) (Or.inl ⟨by rfl, ?_⟩) (by assumption) ?_
          rotate_left
          · (intro w hSw; (try dsimp only at hSw); go_simp; (try with_reducible rfl))
          try simp only [Act.put, List.setIfInBounds_toArray, List.set_cons_zero, List.set_cons_succ]
          refine wpAnyH_take (i := 4) (v := ?_) rfl (by kernel_rfl) (by kernel_rfl) (by kernel_rfl) (fun _ _ _ h => h) (Or.inl ⟨by rfl, ?_⟩) (by assumption) ?_
          rotate_left
          · (intro w hSw; (try dsimp only at hSw); go_simp; (try with_reducible rfl))
          try simp only [Act.put, List.setIfInBounds_toArray, List.set_cons_zero, List.set_cons_succ]
          refine wpAnyH_take (i := 5) (v := ?_) rfl (by kernel_rfl) (by kernel_rfl) (by kernel_rfl) (fun _ _ _ h => h) (Or.inl ⟨by rfl, ?_⟩) (by assumption) ?_
          rotate_left
          · (intro w hSw; (try dsimp only at hSw); go_simp; (try with_reducible rfl))
          try simp only [Act.put, List.setIfInBounds_toArray, List.set_cons_zero, List.set_cons_succ]
          refine wpAnyH_ready (rs := [1, 6]) (by kernel_rfl) (by simp) ?_
          refine AllReadyH.cons rfl (fun K hK => ?_) ?_
          · go_simp
            refine hK.out _ _ ?_ (fun hHeld => ?_)
            · first | assumption | exact ⟨blkc6 (t := 58) (Bm.kept (below_drew1 _)), hcv.out _ (bl_drew HUN.out)⟩
            clear hK K
            try simp only [Act.put, List.setIfInBounds_toArray, List.set_cons_zero, List.set_cons_succ]
            refine wpAnyH_ready (rs := [6]) (by kernel_rfl) (by simp) ?_
            refine AllReadyH.cons rfl (fun K hK => ?_) ?_
            · go_simp
              go_wp2_with (go_at_call 20; refine (atR _ m sa sc).mono ?_; rintro e y1 ⟨rfl, hbu⟩; have Vm : Hid (Blk y1 (u3.heap.size) 58 #[.int .i64 m.kind, .string (strOfNums m.s), .int .u64 m.n, .slice sa m.b.length sc, .int .i64 m.line, .int .i64 m.col]) := hid (Blk.kept (Bm.kept (below_drew1 _)) hbu); have Vx : Hid (Blk y1 (u3.heap.size + 1) 54 #[.slice (some ⟨bw, o2, none⟩) s2.l.length c2, .int .i64 s2.cd, .int .i64 0, .int .i64 s2.ln, .int .i64 s2.cl]) := hid (Blk.kept (Bx.kept (below_drew1 _)) hbu); have GU := hid (GZ.out.kept (bl_then (below_drew1 _) hbu)); have u_d := GU.out.ob.cellF; have v_d := GU.out.ob.frz; have w_d := GU.out.ob.lt; clear hbu)
              refine hK.out _ _ ?_ (fun hHeld => ?_)
              · first | assumption | exact ⟨blkc6 (t := 58) (Vm.out), hcv.out _ (GU.out.un)⟩
              clear hK K
              try simp only [Act.put, List.setIfInBounds_toArray, List.set_cons_zero, List.set_cons_succ]
              obtain ⟨la, lc, x3, HRUN, HGR, HB3, G3⟩ := GU.out.moreI rfl (by have := HTL.out.1; dsimp only; omega) ⟨m.b, atM m⟩
              dsimp only [atM] at HRUN HGR HB3 G3
              refine wpAnyH_take (i := 7) (v := ?_) rfl (by kernel_rfl) (by kernel_rfl) (by kernel_rfl) (fun _ _ _ h => h) (Or.inl ⟨by rfl, ?_⟩) (by assumption) ?_
              rotate_left
              · (intro w hSw; (try dsimp only at hSw); go_simp; (try with_reducible rfl))
              try simp only [Act.put, List.setIfInBounds_toArray, List.set_cons_zero, List.set_cons_succ]
              refine wpAnyH_ready (rs := [8]) (by kernel_rfl) (by simp) ?_
              refine AllReadyH.cons rfl (fun K hK => ?_) ?_
              · go_simp
                refine hK.out _ _ ?_ (fun hHeld => ?_)
                · first | assumption | exact ⟨blkc6 (t := 58) (Vm.out.kept (below_alloc _)), hcv.out _ (bl_alloc GU.out.un _)⟩
                clear hK K
                try simp only [Act.put, List.setIfInBounds_toArray, List.set_cons_zero, List.set_cons_succ]
                refine wpAnyH_ready (rs := [9]) (by kernel_rfl) (by simp) ?_
                refine AllReadyH.cons rfl (fun K hK => ?_) ?_
                · refine step_append_ran rfl _ _ 31 31 rfl rfl _ _ (.slice la ((toD t).oneofs.length + 1) lc) x3 rfl rfl HRUN.out ?_
                  have Gm := hid (growR_blk HGR.out GU.out.own.o Vm.out (by decide))
                  have Gx := hid (growR_blk HGR.out GU.out.own.o Vx.out (by decide))
                  have hun3 : Below w1.heap.size w1 x3 := GU.out.un.trans ((Keep.ofGrow (f := (· < w1.heap.size)) HGR.out (fun q hq e => by have := (own_type GU.out.own.o e).1; omega)).below GU.out.un.size (fun k hk => hk))
                  have c_3 := HB3.out.cellF
                  have f_3 := HB3.out.frz
                  refine hK.out _ _ ?_ (fun hHeld => ?_)
                  · first | assumption | exact ⟨blkc6 (t := 58) (Gm.out), hcv.out _ (hun3)⟩
                  clear hK K
                  try simp only [Act.put, List.setIfInBounds_toArray, List.set_cons_zero, List.set_cons_succ]
                  refine wpAnyH_take (i := 10) (v := ?_) rfl (by kernel_rfl) (by kernel_rfl) (by kernel_rfl) (fun _ _ _ h => h) (Or.inl ⟨by rfl, ?_⟩) (by assumption) ?_
                  rotate_left
                  · (intro w hSw; (try dsimp only at hSw); go_simp; (try with_reducible rfl))
                  try simp only [Act.put, List.setIfInBounds_toArray, List.set_cons_zero, List.set_cons_succ]
                  refine wpAnyH_ready (rs := [11]) (by kernel_rfl) (by simp) ?_
                  refine AllReadyH.cons rfl (fun K hK => ?_) ?_
                  · go_simp
                    refine hK.out _ _ ?_ (fun hHeld => ?_)
                    · first | assumption | exact ⟨blkc6 (t := 58) (Gm.out.other (show u3.heap.size ≠ w1.heap.size + 1 + 1 from nmo) _), hcv.out _ (bl_set hun3 (by simp; omega) _)⟩
                    clear hK K
                    try simp only [Act.put, List.setIfInBounds_toArray, List.set_cons_zero, List.set_cons_succ]
                    refine wpAnyH_done (by kernel_rfl) ?_ _
                    go_wp2_with fail
                    go_meet
                    exact ⟨la, lc, hid (by have h := G3.out; rw [toD_imp t ⟨m.b, (m.line, m.col)⟩] at h; exact h), hid (Gx.out.other (show u3.heap.size + 1 ≠ w1.heap.size + 1 + 1 from nxo) _)⟩
                  exact AllReadyH.nil
                exact AllReadyH.nil
              exact AllReadyH.nil
            exact AllReadyH.nil
          refine AllReadyH.cons rfl (fun K hK => ?_) ?_
          · go_simp
            go_wp2_with (go_at_call 20; refine (atR _ m sa sc).mono ?_; rintro e y1 ⟨rfl, hbu⟩; have Vm : Hid (Blk y1 (u3.heap.size) 58 #[.int .i64 m.kind, .string (strOfNums m.s), .int .u64 m.n, .slice sa m.b.length sc, .int .i64 m.line, .int .i64 m.col]) := hid (Blk.kept (Bm.kept (below_drew1 _)) hbu); have Vx : Hid (Blk y1 (u3.heap.size + 1) 54 #[.slice (some ⟨bw, o2, none⟩) s2.l.length c2, .int .i64 s2.cd, .int .i64 0, .int .i64 s2.ln, .int .i64 s2.cl]) := hid (Blk.kept (Bx.kept (below_drew1 _)) hbu); have GU := hid (GZ.out.kept (bl_then (below_drew1 _) hbu)); have u_d := GU.out.ob.cellF; have v_d := GU.out.ob.frz; have w_d := GU.out.ob.lt; clear hbu)
            refine hK.out _ _ ?_ (fun hHeld => ?_)
            · first | assumption | exact ⟨blkc6 (t := 58) (Vm.out), hcv.out _ (GU.out.un)⟩
            clear hK K
            try simp only [Act.put, List.setIfInBounds_toArray, List.set_cons_zero, List.set_cons_succ]
            obtain ⟨la, lc, x3, HRUN, HGR, HB3, G3⟩ := GU.out.moreI rfl (by have := HTL.out.1; dsimp only; omega) ⟨m.b, atM m⟩
            dsimp only [atM] at HRUN HGR HB3 G3
            refine wpAnyH_take (i := 7) (v := ?_) rfl (by kernel_rfl) (by kernel_rfl) (by kernel_rfl) (fun _ _ _ h => h) (Or.inl ⟨by rfl, ?_⟩) (by assumption) ?_
            rotate_left
            · (intro w hSw; (try dsimp only at hSw); go_simp; (try with_reducible rfl))
            try simp only [Act.put, List.setIfInBounds_toArray, List.set_cons_zero, List.set_cons_succ]
            refine wpAnyH_ready (rs := [1, 8]) (by kernel_rfl) (by simp) ?_
            refine AllReadyH.cons rfl (fun K hK => ?_) ?_
            · go_simp
              refine hK.out _ _ ?_ (fun hHeld => ?_)
              · first | assumption | exact ⟨blkc6 (t := 58) (Vm.out), hcv.out _ (GU.out.un)⟩
              clear hK K
              try simp only [Act.put, List.setIfInBounds_toArray, List.set_cons_zero, List.set_cons_succ]
              refine wpAnyH_ready (rs := [8]) (by kernel_rfl) (by simp) ?_
              refine AllReadyH.cons rfl (fun K hK => ?_) ?_
              · go_simp
                refine hK.out _ _ ?_ (fun hHeld => ?_)
                · first | assumption | exact ⟨blkc6 (t := 58) (Vm.out.kept (below_alloc _)), hcv.out _ (bl_alloc GU.out.un _)⟩
                clear hK K
                try simp only [Act.put, List.setIfInBounds_toArray, List.set_cons_zero, List.set_cons_succ]
                refine wpAnyH_ready (rs := [9]) (by kernel_rfl) (by simp) ?_
                refine AllReadyH.cons rfl (fun K hK => ?_) ?_
                · refine step_append_ran rfl _ _ 31 31 rfl rfl _ _ (.slice la ((toD t).oneofs.length + 1) lc) x3 rfl rfl HRUN.out ?_
                  have Gm := hid (growR_blk HGR.out GU.out.own.o Vm.out (by decide))
                  have Gx := hid (growR_blk HGR.out GU.out.own.o Vx.out (by decide))
                  have hun3 : Below w1.heap.size w1 x3 := GU.out.un.trans ((Keep.ofGrow (f := (· < w1.heap.size)) HGR.out (fun q hq e => by have := (own_type GU.out.own.o e).1; omega)).below GU.out.un.size (fun k hk => hk))
                  have c_3 := HB3.out.cellF
                  have f_3 := HB3.out.frz
                  refine hK.out _ _ ?_ (fun hHeld => ?_)
                  · first | assumption | exact ⟨blkc6 (t := 58) (Gm.out), hcv.out _ (hun3)⟩
                  clear hK K
                  try simp only [Act.put, List.setIfInBounds_toArray, List.set_cons_zero, List.set_cons_succ]
                  refine wpAnyH_take (i := 10) (v := ?_) rfl (by kernel_rfl) (by kernel_rfl) (by kernel_rfl) (fun _ _ _ h => h) (Or.inl ⟨by rfl, ?_⟩) (by assumption) ?_
                  rotate_left
                  · (intro w hSw; (try dsimp only at hSw); go_simp; (try with_reducible rfl))
                  try simp only [Act.put, List.setIfInBounds_toArray, List.set_cons_zero, List.set_cons_succ]
                  refine wpAnyH_ready (rs := [11]) (by kernel_rfl) (by simp) ?_
                  refine AllReadyH.cons rfl (fun K hK => ?_) ?_
                  · go_simp
                    refine hK.out _ _ ?_ (fun hHeld => ?_)
                    · first | assumption | exact ⟨blkc6 (t := 58) (Gm.out.other (show u3.heap.size ≠ w1.heap.size + 1 + 1 from nmo) _), hcv.out _ (bl_set hun3 (by simp; omega) _)⟩
                    clear hK K
                    try simp only [Act.put, List.setIfInBounds_toArray, List.set_cons_zero, List.set_cons_succ]
                    refine wpAnyH_done (by kernel_rfl) ?_ _
                    go_wp2_with fail
                    go_meet
                    exact ⟨la, lc, hid (by have h := G3.out; rw [toD_imp t ⟨m.b, (m.line, m.col)⟩] at h; exact h), hid (Gx.out.other (show u3.heap.size + 1 ≠ w1.heap.size + 1 + 1 from nxo) _)⟩
                  exact AllReadyH.nil
                exact AllReadyH.nil
              exact AllReadyH.nil
            refine AllReadyH.cons rfl (fun K hK => ?_) ?_
            · go_simp
              refine hK.out _ _ ?_ (fun hHeld => ?_)
              · first | assumption | exact ⟨blkc6 (t := 58) (Vm.out.kept (below_alloc _)), hcv.out _ (bl_alloc GU.out.un _)⟩
              clear hK K
              try simp only [Act.put, List.setIfInBounds_toArray, List.set_cons_zero, List.set_cons_succ]
              refine wpAnyH_ready (rs := [1]) (by kernel_rfl) (by simp) ?_
              refine AllReadyH.cons rfl (fun K hK => ?_) ?_
              · go_simp
                refine hK.out _ _ ?_ (fun hHeld => ?_)
                · first | assumption | exact ⟨blkc6 (t := 58) (Vm.out.kept (below_alloc _)), hcv.out _ (bl_alloc GU.out.un _)⟩
                clear hK K
                try simp only [Act.put, List.setIfInBounds_toArray, List.set_cons_zero, List.set_cons_succ]
                refine wpAnyH_ready (rs := [9]) (by kernel_rfl) (by simp) ?_
                refine AllReadyH.cons rfl (fun K hK => ?_) ?_
                · refine step_append_ran rfl _ _ 31 31 rfl rfl _ _ (.slice la ((toD t).oneofs.length + 1) lc) x3 rfl rfl HRUN.out ?_
                  have Gm := hid (growR_blk HGR.out GU.out.own.o Vm.out (by decide))
                  have Gx := hid (growR_blk HGR.out GU.out.own.o Vx.out (by decide))
                  have hun3 : Below w1.heap.size w1 x3 := GU.out.un.trans ((Keep.ofGrow (f := (· < w1.heap.size)) HGR.out (fun q hq e => by have := (own_type GU.out.own.o e).1; omega)).below GU.out.un.size (fun k hk => hk))
                  have c_3 := HB3.out.cellF
                  have f_3 := HB3.out.frz
                  refine hK.out _ _ ?_ (fun hHeld => ?_)
                  · first | assumption | exact ⟨blkc6 (t := 58) (Gm.out), hcv.out _ (hun3)⟩
                  clear hK K
                  try simp only [Act.put, List.setIfInBounds_toArray, List.set_cons_zero, List.set_cons_succ]
                  refine wpAnyH_take (i := 10) (v := ?_) rfl (by kernel_rfl) (by kernel_rfl) (by kernel_rfl) (fun _ _ _ h => h) (Or.inl ⟨by rfl, ?_⟩) (by assumption) ?_
                  rotate_left
                  · (intro w hSw; (try dsimp only at hSw); go_simp; (try with_reducible rfl))
                  try simp only [Act.put, List.setIfInBounds_toArray, List.set_cons_zero, List.set_cons_succ]
                  refine wpAnyH_ready (rs := [11]) (by kernel_rfl) (by simp) ?_
                  refine AllReadyH.cons rfl (fun K hK => ?_) ?_
                  · go_simp
                    refine hK.out _ _ ?_ (fun hHeld => ?_)
                    · first | assumption | exact ⟨blkc6 (t := 58) (Gm.out.other (show u3.heap.size ≠ w1.heap.size + 1 + 1 from nmo) _), hcv.out _ (bl_set hun3 (by simp; omega) _)⟩
                    clear hK K
                    try simp only [Act.put, List.setIfInBounds_toArray, List.set_cons_zero, List.set_cons_succ]
                    refine wpAnyH_done (by kernel_rfl) ?_ _
                    go_wp2_with fail
                    go_meet
                    exact ⟨la, lc, hid (by have h := G3.out; rw [toD_imp t ⟨m.b, (m.line, m.col)⟩] at h; exact h), hid (Gx.out.other (show u3.heap.size + 1 ≠ w1.heap.size + 1 + 1 from nxo) _)⟩
                  exact AllReadyH.nil
                exact AllReadyH.nil
              exact AllReadyH.nil
            exact AllReadyH.nil
          exact AllReadyH.nil
        case rest =>
          obtain ⟨za, zc, GC, BX⟩ := hcut
          have c_x := BX.out.cellF
          have l_x := BX.out.lt
          have cs := GC.out.sb.cellF
          have fs := GC.out.sb.frz
          have ls := GC.out.sb.lt
          have co := GC.out.ob.cellF
          have fo := GC.out.ob.frz
          have lo := GC.out.ob.lt
          go_wp2_with fail
          refine (eatR w1 bw o2 c2 s2 _ ⟨#[59]⟩ [59] rfl (by decide) hst2.out GC.out.un).mono ?_
          rintro e u21 ⟨⟨s3, o3, c3, he3, rfl, hst3⟩, hb21⟩
          have GU21 := hid (GC.out.kept hb21)
          have hs21 := hb21.size
          try simp at hs21
          clear hb21
          clear cs fs ls co fo lo
          have cs := GU21.out.sb.cellF
          have fs := GU21.out.sb.frz
          have ls := GU21.out.sb.lt
          have co := GU21.out.ob.cellF
          have fo := GU21.out.ob.frz
          have lo := GU21.out.ob.lt
          replace hst3 := hid hst3
          have GL := hid (GU21.out.setS hst3.out)
          have HIM : Hid (impM s = (⟨m.b, atM m⟩, s3)) := hid (by unfold impM; rw [← he1.out, ← hm.out, ← he2.out, ← he3.out])
          rw [HIM.out] at HDEC HTOT
          go_wp2
          exact ⟨⟨⟨t.imps ++ [⟨m.b, atM m⟩], t.decls⟩, s3, o3, c3, _, hid (by rw [hrl.out, HSG.out, HST2.out, HIM.out]), hid rfl, GL, hid (by have h1 := htot.out; have h2 := HTOT.out; simp only [List.length_append, List.length_cons, List.length_nil] at h2 ⊢; omega)⟩, by rw [hm0, muW_is GL.out.sb]; exact HDEC.out⟩
      | false =>
        cases h1 : isM s wMessage with
        | true =>
          have HST2 : Hid (filSt (t, s) = (⟨t.imps, t.decls ++ [(dclM 8 s).1]⟩, (dclM 8 s).2)) := hid (by unfold filSt; rw [if_neg (by rw [h0]; decide), if_pos (.inl h1)])
          rw [HST2.out] at HDEC HTOT
          have HDR : Hid (∀ W, Below w1.heap.size w1 W → Calls Tryz.prog 22 #[.agg #[.slice (some ⟨bw, o, none⟩) s.l.length c', .int .i64 s.cd, .int .i64 0, .int .i64 s.ln, .int .i64 s.cl], .int .i64 1] W (DclR w1 bw 9 (dclM 8 s) W)) := hid (fun W hW => declR w1 bw 8 (Nat.le_refl _) s o c' W GR.out.st hW)
          go_wp2_with fail
          refine (isR w1 bw o c' s _ ⟨#[105, 109, 112, 111, 114, 116]⟩ wImport rfl (by decide) GR.out.st GR.out.un).mono ?_
          rintro e u1 ⟨rfl, hb1⟩
          have GU1 := hid (GR.out.kept hb1)
          have hs1 := hb1.size
          try simp at hs1
          clear hb1
          clear cs fs ls co fo lo
          have cs := GU1.out.sb.cellF
          have fs := GU1.out.sb.frz
          have ls := GU1.out.sb.lt
          have co := GU1.out.ob.cellF
          have fo := GU1.out.ob.frz
          have lo := GU1.out.ob.lt
          rw [h0]
          go_wp2_with fail
          refine (isR w1 bw o c' s _ ⟨#[109, 101, 115, 115, 97, 103, 101]⟩ wMessage rfl (by decide) GU1.out.st GU1.out.un).mono ?_
          rintro e u2 ⟨rfl, hb2⟩
          have GU2 := hid (GU1.out.kept hb2)
          have hs2 := hb2.size
          try simp at hs2
          clear hb2
          clear cs fs ls co fo lo
          have cs := GU2.out.sb.cellF
          have fs := GU2.out.sb.frz
          have ls := GU2.out.sb.lt
          have co := GU2.out.ob.cellF
          have fo := GU2.out.ob.frz
          have lo := GU2.out.ob.lt
          rw [h1]
          go_wp2_with fail
          refine (HDR.out _ GU2.out.un).mono ?_
          rintro e u3 ⟨⟨y, s1, o1, c1, hyd, he, rfl, hrd, hst1⟩, hb3⟩
          have GU3 := hid (GU2.out.kept hb3)
          have hs3 := hb3.size
          clear hb3
          clear cs fs ls co fo lo
          have cs := GU3.out.sb.cellF
          have fs := GU3.out.sb.frz
          have ls := GU3.out.sb.lt
          have co := GU3.out.ob.cellF
          have fo := GU3.out.ob.frz
          have lo := GU3.out.ob.lt
          obtain ⟨⟨ga, gc, e1⟩, ⟨pa, pc, e2⟩, ⟨qa, qc, e3⟩, ⟨ta, tc, e4⟩, ⟨ea, ec, e5⟩⟩ := hrd.out.shape
          obtain ⟨yd, yf, yo, ydd, yr, ys⟩ := y
          dsimp only at e1 e2 e3 e4 e5 hyd
          subst e1 e2 e3 e4 e5
          dsimp only
          go_upto_region 15 with fail
          have GZ : Hid (Fil w1 bw ((u3.alloc (.cells #[.bool yd.enum, .string (strOfNums yd.name), .int .i64 yd.at1.1, .int .i64 yd.at1.2, .slice ga yd.fields.length gc, .slice pa yd.oneofs.length pc, .slice ea yd.decls.length ec, .slice qa yd.res.length qc, .slice ta yd.syms.length tc] 74)).alloc (.cells #[.slice (some ⟨bw, o1, none⟩) s1.l.length c1, .int .i64 s1.cd, .int .i64 0, .int .i64 s1.ln, .int .i64 s1.cl] 54)) o c' s ⟨toD t, xf, .slice oa (toD t).oneofs.length oc, .slice da (toD t).decls.length dc, xr, xs⟩) := hid (GU3.out.kept (below_twor _ _))
          have Bf : Blk ((u3.alloc (.cells #[.bool yd.enum, .string (strOfNums yd.name), .int .i64 yd.at1.1, .int .i64 yd.at1.2, .slice ga yd.fields.length gc, .slice pa yd.oneofs.length pc, .slice ea yd.decls.length ec, .slice qa yd.res.length qc, .slice ta yd.syms.length tc] 74)).alloc (.cells #[.slice (some ⟨bw, o1, none⟩) s1.l.length c1, .int .i64 s1.cd, .int .i64 0, .int .i64 s1.ln, .int .i64 s1.cl] 54)) (u3.heap.size) 74 #[.bool yd.enum, .string (strOfNums yd.name), .int .i64 yd.at1.1, .int .i64 yd.at1.2, .slice ga yd.fields.length gc, .slice pa yd.oneofs.length pc, .slice ea yd.decls.length ec, .slice qa yd.res.length qc, .slice ta yd.syms.length tc] := (Blk.newAt rfl).kept (below_alloc _)
          have Bx : Blk ((u3.alloc (.cells #[.bool yd.enum, .string (strOfNums yd.name), .int .i64 yd.at1.1, .int .i64 yd.at1.2, .slice ga yd.fields.length gc, .slice pa yd.oneofs.length pc, .slice ea yd.decls.length ec, .slice qa yd.res.length qc, .slice ta yd.syms.length tc] 74)).alloc (.cells #[.slice (some ⟨bw, o1, none⟩) s1.l.length c1, .int .i64 s1.cd, .int .i64 0, .int .i64 s1.ln, .int .i64 s1.cl] 54)) (u3.heap.size + 1) 54 #[.slice (some ⟨bw, o1, none⟩) s1.l.length c1, .int .i64 s1.cd, .int .i64 0, .int .i64 s1.ln, .int .i64 s1.cl] := Blk.newAt (by simp)
          have HRD : Hid (RD 9 ((u3.alloc (.cells #[.bool yd.enum, .string (strOfNums yd.name), .int .i64 yd.at1.1, .int .i64 yd.at1.2, .slice ga yd.fields.length gc, .slice pa yd.oneofs.length pc, .slice ea yd.decls.length ec, .slice qa yd.res.length qc, .slice ta yd.syms.length tc] 74)).alloc (.cells #[.slice (some ⟨bw, o1, none⟩) s1.l.length c1, .int .i64 s1.cd, .int .i64 0, .int .i64 s1.ln, .int .i64 s1.cl] 54)) (fun k => u2.heap.size ≤ k ∧ k < ((u3.alloc (.cells #[.bool yd.enum, .string (strOfNums yd.name), .int .i64 yd.at1.1, .int .i64 yd.at1.2, .slice ga yd.fields.length gc, .slice pa yd.oneofs.length pc, .slice ea yd.decls.length ec, .slice qa yd.res.length qc, .slice ta yd.syms.length tc] 74)).alloc (.cells #[.slice (some ⟨bw, o1, none⟩) s1.l.length c1, .int .i64 s1.cd, .int .i64 0, .int .i64 s1.ln, .int .i64 s1.cl] 54)).heap.size) ⟨yd, .slice ga yd.fields.length gc, .slice pa yd.oneofs.length pc, .slice ea yd.decls.length ec, .slice qa yd.res.length qc, .slice ta yd.syms.length tc⟩) := hid (RD.weak (fun q hq => ⟨hq.1, by have := hq.2; simp; omega⟩) _ _ (RD.keep (Keep.ofBelow (f := fun _ => True) (below_twor _ _)) (fun _ _ => trivial) _ _ hrd.out))
          clear cs fs ls co fo lo hrd x1 y1 z1 x2 y2 z2 e0 hB2 zw
          generalize ((u3.alloc (.cells #[.bool yd.enum, .string (strOfNums yd.name), .int .i64 yd.at1.1, .int .i64 yd.at1.2, .slice ga yd.fields.length gc, .slice pa yd.oneofs.length pc, .slice ea yd.decls.length ec, .slice qa yd.res.length qc, .slice ta yd.syms.length tc] 74)).alloc (.cells #[.slice (some ⟨bw, o1, none⟩) s1.l.length c1, .int .i64 s1.cd, .int .i64 0, .int .i64 s1.ln, .int .i64 s1.cl] 54)) = wz at *
          have c_f := Bf.cellF
          have c_x := Bx.cellF
          have l_f := Bf.lt
          have l_x := Bx.lt
          have cs := GZ.out.sb.cellF
          have fs := GZ.out.sb.frz
          have ls := GZ.out.sb.lt
          have co := GZ.out.ob.cellF
          have fo := GZ.out.ob.frz
          have lo := GZ.out.ob.lt
          obtain ⟨la, lc, x3, HRUN, HGR, HB3, G3⟩ := GZ.out.moreD (by have := HTL.out.2; dsimp only; omega) (N := u2.heap.size) GU2.out.le (fun q hq => by rcases hq with hq | hq; exact (GU2.out.own.lt hq).2; have := GU2.out.ob.lt; omega) HRD.out
          dsimp only at HRUN HGR HB3 G3
          obtain ⟨_, dvs, _, hdd, _⟩ := GZ.out.own.dd
          have Bx3 : Blk x3 (u3.heap.size + 1) 54 #[.slice (some ⟨bw, o1, none⟩) s1.l.length c1, .int .i64 s1.cd, .int .i64 0, .int .i64 s1.ln, .int .i64 s1.cl] := growR_blk HGR.out hdd Bx (by decide)
          have c_3 := HB3.out.cellF
          have f_3 := HB3.out.frz
          have l_3 := HB3.out.lt
          clear hdd
          go_upto_region 16 with (first | (at_builtin; refine wpList_append_ran rfl _ _ 32 32 rfl rfl _ _ (.slice la ((toD t).decls.length + 1) lc) x3 rfl rfl HRUN.out ?_))
          have Bx4 : Blk (x3.setCell ⟨w1.heap.size + 1 + 1, 1, none⟩ (.slice la ((toD t).decls.length + 1) lc)) (u3.heap.size + 1) 54 #[.slice (some ⟨bw, o1, none⟩) s1.l.length c1, .int .i64 s1.cd, .int .i64 0, .int .i64 s1.ln, .int .i64 s1.cl] := Bx3.other (show u3.heap.size + 1 ≠ w1.heap.size + 1 + 1 by have := GU2.out.ob.lt; omega) _
          clear cs fs ls co fo lo c_3 f_3 l_3 c_f c_x l_f l_x Bx3 HB3 HRUN HGR Bf Bx
          generalize (x3.setCell ⟨w1.heap.size + 1 + 1, 1, none⟩ (.slice la ((toD t).decls.length + 1) lc)) = x4 at *
          have c_x := Bx4.cellF
          have l_x := Bx4.lt
          have cs := G3.out.sb.cellF
          have fs := G3.out.sb.frz
          have ls := G3.out.sb.lt
          have co := G3.out.ob.cellF
          have fo := G3.out.ob.frz
          have lo := G3.out.ob.lt
          have GL := hid (G3.out.setS hst1.out)
          go_wp2
          exact ⟨⟨⟨t.imps, t.decls ++ [yd]⟩, s1, o1, c1, _, hid (by rw [hrl.out, HSG.out, HST2.out, ← hyd.out, ← he.out]), hid (toD_dcl t yd), GL, hid (by have h1 := htot.out; have h2 := HTOT.out; rw [← he.out] at h2; simp only [List.length_append, List.length_cons, List.length_nil] at h2 ⊢; omega)⟩, by rw [hm0, muW_is GL.out.sb]; have := HDEC.out; rw [← he.out] at this; exact this⟩
        | false =>
          cases h2 : isM s wEnum with
          | true =>
            have HST2 : Hid (filSt (t, s) = (⟨t.imps, t.decls ++ [(dclM 8 s).1]⟩, (dclM 8 s).2)) := hid (by unfold filSt; rw [if_neg (by rw [h0]; decide), if_pos (.inr h2)])
            rw [HST2.out] at HDEC HTOT
            have HDR : Hid (∀ W, Below w1.heap.size w1 W → Calls Tryz.prog 22 #[.agg #[.slice (some ⟨bw, o, none⟩) s.l.length c', .int .i64 s.cd, .int .i64 0, .int .i64 s.ln, .int .i64 s.cl], .int .i64 1] W (DclR w1 bw 9 (dclM 8 s) W)) := hid (fun W hW => declR w1 bw 8 (Nat.le_refl _) s o c' W GR.out.st hW)
            go_wp2_with fail
            refine (isR w1 bw o c' s _ ⟨#[105, 109, 112, 111, 114, 116]⟩ wImport rfl (by decide) GR.out.st GR.out.un).mono ?_
            rintro e u1 ⟨rfl, hb1⟩
            have GU1 := hid (GR.out.kept hb1)
            have hs1 := hb1.size
            try simp at hs1
            clear hb1
            clear cs fs ls co fo lo
            have cs := GU1.out.sb.cellF
            have fs := GU1.out.sb.frz
            have ls := GU1.out.sb.lt
            have co := GU1.out.ob.cellF
            have fo := GU1.out.ob.frz
            have lo := GU1.out.ob.lt
            rw [h0]
            go_wp2_with fail
            refine (isR w1 bw o c' s _ ⟨#[109, 101, 115, 115, 97, 103, 101]⟩ wMessage rfl (by decide) GU1.out.st GU1.out.un).mono ?_
            rintro e u2 ⟨rfl, hb2⟩
            have GU2 := hid (GU1.out.kept hb2)
            have hs2 := hb2.size
            try simp at hs2
            clear hb2
            clear cs fs ls co fo lo
            have cs := GU2.out.sb.cellF
            have fs := GU2.out.sb.frz
            have ls := GU2.out.sb.lt
            have co := GU2.out.ob.cellF
            have fo := GU2.out.ob.frz
            have lo := GU2.out.ob.lt
            rw [h1]
            go_wp2_with fail
            refine (isR w1 bw o c' s _ ⟨#[101, 110, 117, 109]⟩ wEnum rfl (by decide) GU2.out.st GU2.out.un).mono ?_
            rintro e u3 ⟨rfl, hb3⟩
            have GU3 := hid (GU2.out.kept hb3)
            have hs3 := hb3.size
            try simp at hs3
            clear hb3
            clear cs fs ls co fo lo
            have cs := GU3.out.sb.cellF
            have fs := GU3.out.sb.frz
            have ls := GU3.out.sb.lt
            have co := GU3.out.ob.cellF
            have fo := GU3.out.ob.frz
            have lo := GU3.out.ob.lt
            rw [h2]
            go_wp2_with fail
            refine (HDR.out _ GU3.out.un).mono ?_
            rintro e u4 ⟨⟨y, s1, o1, c1, hyd, he, rfl, hrd, hst1⟩, hb4⟩
            have GU4 := hid (GU3.out.kept hb4)
            have hs4 := hb4.size
            clear hb4
            clear cs fs ls co fo lo
            have cs := GU4.out.sb.cellF
            have fs := GU4.out.sb.frz
            have ls := GU4.out.sb.lt
            have co := GU4.out.ob.cellF
            have fo := GU4.out.ob.frz
            have lo := GU4.out.ob.lt
            obtain ⟨⟨ga, gc, e1⟩, ⟨pa, pc, e2⟩, ⟨qa, qc, e3⟩, ⟨ta, tc, e4⟩, ⟨ea, ec, e5⟩⟩ := hrd.out.shape
            obtain ⟨yd, yf, yo, ydd, yr, ys⟩ := y
            dsimp only at e1 e2 e3 e4 e5 hyd
            subst e1 e2 e3 e4 e5
            dsimp only
            go_upto_region 15 with fail
            have GZ : Hid (Fil w1 bw ((u4.alloc (.cells #[.bool yd.enum, .string (strOfNums yd.name), .int .i64 yd.at1.1, .int .i64 yd.at1.2, .slice ga yd.fields.length gc, .slice pa yd.oneofs.length pc, .slice ea yd.decls.length ec, .slice qa yd.res.length qc, .slice ta yd.syms.length tc] 74)).alloc (.cells #[.slice (some ⟨bw, o1, none⟩) s1.l.length c1, .int .i64 s1.cd, .int .i64 0, .int .i64 s1.ln, .int .i64 s1.cl] 54)) o c' s ⟨toD t, xf, .slice oa (toD t).oneofs.length oc, .slice da (toD t).decls.length dc, xr, xs⟩) := hid (GU4.out.kept (below_twor _ _))
            have Bf : Blk ((u4.alloc (.cells #[.bool yd.enum, .string (strOfNums yd.name), .int .i64 yd.at1.1, .int .i64 yd.at1.2, .slice ga yd.fields.length gc, .slice pa yd.oneofs.length pc, .slice ea yd.decls.length ec, .slice qa yd.res.length qc, .slice ta yd.syms.length tc] 74)).alloc (.cells #[.slice (some ⟨bw, o1, none⟩) s1.l.length c1, .int .i64 s1.cd, .int .i64 0, .int .i64 s1.ln, .int .i64 s1.cl] 54)) (u4.heap.size) 74 #[.bool yd.enum, .string (strOfNums yd.name), .int .i64 yd.at1.1, .int .i64 yd.at1.2, .slice ga yd.fields.length gc, .slice pa yd.oneofs.length pc, .slice ea yd.decls.length ec, .slice qa yd.res.length qc, .slice ta yd.syms.length tc] := (Blk.newAt rfl).kept (below_alloc _)
            have Bx : Blk ((u4.alloc (.cells #[.bool yd.enum, .string (strOfNums yd.name), .int .i64 yd.at1.1, .int .i64 yd.at1.2, .slice ga yd.fields.length gc, .slice pa yd.oneofs.length pc, .slice ea yd.decls.length ec, .slice qa yd.res.length qc, .slice ta yd.syms.length tc] 74)).alloc (.cells #[.slice (some ⟨bw, o1, none⟩) s1.l.length c1, .int .i64 s1.cd, .int .i64 0, .int .i64 s1.ln, .int .i64 s1.cl] 54)) (u4.heap.size + 1) 54 #[.slice (some ⟨bw, o1, none⟩) s1.l.length c1, .int .i64 s1.cd, .int .i64 0, .int .i64 s1.ln, .int .i64 s1.cl] := Blk.newAt (by simp)
            have HRD : Hid (RD 9 ((u4.alloc (.cells #[.bool yd.enum, .string (strOfNums yd.name), .int .i64 yd.at1.1, .int .i64 yd.at1.2, .slice ga yd.fields.length gc, .slice pa yd.oneofs.length pc, .slice ea yd.decls.length ec, .slice qa yd.res.length qc, .slice ta yd.syms.length tc] 74)).alloc (.cells #[.slice (some ⟨bw, o1, none⟩) s1.l.length c1, .int .i64 s1.cd, .int .i64 0, .int .i64 s1.ln, .int .i64 s1.cl] 54)) (fun k => u3.heap.size ≤ k ∧ k < ((u4.alloc (.cells #[.bool yd.enum, .string (strOfNums yd.name), .int .i64 yd.at1.1, .int .i64 yd.at1.2, .slice ga yd.fields.length gc, .slice pa yd.oneofs.length pc, .slice ea yd.decls.length ec, .slice qa yd.res.length qc, .slice ta yd.syms.length tc] 74)).alloc (.cells #[.slice (some ⟨bw, o1, none⟩) s1.l.length c1, .int .i64 s1.cd, .int .i64 0, .int .i64 s1.ln, .int .i64 s1.cl] 54)).heap.size) ⟨yd, .slice ga yd.fields.length gc, .slice pa yd.oneofs.length pc, .slice ea yd.decls.length ec, .slice qa yd.res.length qc, .slice ta yd.syms.length tc⟩) := hid (RD.weak (fun q hq => ⟨hq.1, by have := hq.2; simp; omega⟩) _ _ (RD.keep (Keep.ofBelow (f := fun _ => True) (below_twor _ _)) (fun _ _ => trivial) _ _ hrd.out))
            clear cs fs ls co fo lo hrd x1 y1 z1 x2 y2 z2 e0 hB2 zw
            generalize ((u4.alloc (.cells #[.bool yd.enum, .string (strOfNums yd.name), .int .i64 yd.at1.1, .int .i64 yd.at1.2, .slice ga yd.fields.length gc, .slice pa yd.oneofs.length pc, .slice ea yd.decls.length ec, .slice qa yd.res.length qc, .slice ta yd.syms.length tc] 74)).alloc (.cells #[.slice (some ⟨bw, o1, none⟩) s1.l.length c1, .int .i64 s1.cd, .int .i64 0, .int .i64 s1.ln, .int .i64 s1.cl] 54)) = wz at *
            have c_f := Bf.cellF
            have c_x := Bx.cellF
            have l_f := Bf.lt
            have l_x := Bx.lt
            have cs := GZ.out.sb.cellF
            have fs := GZ.out.sb.frz
            have ls := GZ.out.sb.lt
            have co := GZ.out.ob.cellF
            have fo := GZ.out.ob.frz
            have lo := GZ.out.ob.lt
            obtain ⟨la, lc, x3, HRUN, HGR, HB3, G3⟩ := GZ.out.moreD (by have := HTL.out.2; dsimp only; omega) (N := u3.heap.size) GU3.out.le (fun q hq => by rcases hq with hq | hq; exact (GU3.out.own.lt hq).2; have := GU3.out.ob.lt; omega) HRD.out
            dsimp only at HRUN HGR HB3 G3
            obtain ⟨_, dvs, _, hdd, _⟩ := GZ.out.own.dd
            have Bx3 : Blk x3 (u4.heap.size + 1) 54 #[.slice (some ⟨bw, o1, none⟩) s1.l.length c1, .int .i64 s1.cd, .int .i64 0, .int .i64 s1.ln, .int .i64 s1.cl] := growR_blk HGR.out hdd Bx (by decide)
            have c_3 := HB3.out.cellF
            have f_3 := HB3.out.frz
            have l_3 := HB3.out.lt
            clear hdd
            go_upto_region 16 with (first | (at_builtin; refine wpList_append_ran rfl _ _ 32 32 rfl rfl _ _ (.slice la ((toD t).decls.length + 1) lc) x3 rfl rfl HRUN.out ?_))
            have Bx4 : Blk (x3.setCell ⟨w1.heap.size + 1 + 1, 1, none⟩ (.slice la ((toD t).decls.length + 1) lc)) (u4.heap.size + 1) 54 #[.slice (some ⟨bw, o1, none⟩) s1.l.length c1, .int .i64 s1.cd, .int .i64 0, .int .i64 s1.ln, .int .i64 s1.cl] := Bx3.other (show u4.heap.size + 1 ≠ w1.heap.size + 1 + 1 by have := GU3.out.ob.lt; omega) _
            clear cs fs ls co fo lo c_3 f_3 l_3 c_f c_x l_f l_x Bx3 HB3 HRUN HGR Bf Bx
            generalize (x3.setCell ⟨w1.heap.size + 1 + 1, 1, none⟩ (.slice la ((toD t).decls.length + 1) lc)) = x4 at *
            have c_x := Bx4.cellF
            have l_x := Bx4.lt
            have cs := G3.out.sb.cellF
            have fs := G3.out.sb.frz
            have ls := G3.out.sb.lt
            have co := G3.out.ob.cellF
            have fo := G3.out.ob.frz
            have lo := G3.out.ob.lt
            have GL := hid (G3.out.setS hst1.out)
            go_wp2
            exact ⟨⟨⟨t.imps, t.decls ++ [yd]⟩, s1, o1, c1, _, hid (by rw [hrl.out, HSG.out, HST2.out, ← hyd.out, ← he.out]), hid (toD_dcl t yd), GL, hid (by have h1 := htot.out; have h2 := HTOT.out; rw [← he.out] at h2; simp only [List.length_append, List.length_cons, List.length_nil] at h2 ⊢; omega)⟩, by rw [hm0, muW_is GL.out.sb]; have := HDEC.out; rw [← he.out] at this; exact this⟩
          | false =>
            have HST2 : Hid (filSt (t, s) = (t, badM s 11)) := hid (by unfold filSt; rw [if_neg (by rw [h0]; decide), if_neg (by rw [h1, h2]; decide)])
            rw [HST2.out] at HDEC HTOT
            go_wp2_with fail
            refine (isR w1 bw o c' s _ ⟨#[105, 109, 112, 111, 114, 116]⟩ wImport rfl (by decide) GR.out.st GR.out.un).mono ?_
            rintro e u1 ⟨rfl, hb1⟩
            have GU1 := hid (GR.out.kept hb1)
            have hs1 := hb1.size
            try simp at hs1
            clear hb1
            clear cs fs ls co fo lo
            have cs := GU1.out.sb.cellF
            have fs := GU1.out.sb.frz
            have ls := GU1.out.sb.lt
            have co := GU1.out.ob.cellF
            have fo := GU1.out.ob.frz
            have lo := GU1.out.ob.lt
            rw [h0]
            go_wp2_with fail
            refine (isR w1 bw o c' s _ ⟨#[109, 101, 115, 115, 97, 103, 101]⟩ wMessage rfl (by decide) GU1.out.st GU1.out.un).mono ?_
            rintro e u2 ⟨rfl, hb2⟩
            have GU2 := hid (GU1.out.kept hb2)
            have hs2 := hb2.size
            try simp at hs2
            clear hb2
            clear cs fs ls co fo lo
            have cs := GU2.out.sb.cellF
            have fs := GU2.out.sb.frz
            have ls := GU2.out.sb.lt
            have co := GU2.out.ob.cellF
            have fo := GU2.out.ob.frz
            have lo := GU2.out.ob.lt
            rw [h1]
            go_wp2_with fail
            refine (isR w1 bw o c' s _ ⟨#[101, 110, 117, 109]⟩ wEnum rfl (by decide) GU2.out.st GU2.out.un).mono ?_
            rintro e u3 ⟨rfl, hb3⟩
            have GU3 := hid (GU2.out.kept hb3)
            have hs3 := hb3.size
            try simp at hs3
            clear hb3
            clear cs fs ls co fo lo
            have cs := GU3.out.sb.cellF
            have fs := GU3.out.sb.frz
            have ls := GU3.out.sb.lt
            have co := GU3.out.ob.cellF
            have fo := GU3.out.ob.frz
            have lo := GU3.out.ob.lt
            rw [h2]
            go_wp2_with fail
            refine (badR w1 bw o c' s _ 11 GU3.out.st GU3.out.un (by decide) (by decide)).mono ?_
            rintro e u4 ⟨⟨s1, he1, rfl, hst1⟩, hb4⟩
            have GU4 := hid (GU3.out.kept hb4)
            have hs4 := hb4.size
            try simp at hs4
            clear hb4
            clear cs fs ls co fo lo
            have cs := GU4.out.sb.cellF
            have fs := GU4.out.sb.frz
            have ls := GU4.out.sb.lt
            have co := GU4.out.ob.cellF
            have fo := GU4.out.ob.frz
            have lo := GU4.out.ob.lt
            replace hst1 := hid hst1
            have GS4 := hid (GU4.out.setS hst1.out)
            go_wp2
            exact ⟨⟨t, s1, o, c', ⟨toD t, xf, .slice oa (toD t).oneofs.length oc, .slice da (toD t).decls.length dc, xr, xs⟩, hid (by rw [hrl.out, HSG.out, HST2.out, ← he1.out]), hid rfl, GS4, hid (by have h1 := htot.out; have h2 := HTOT.out; rw [← he1.out] at h2; omega)⟩, by rw [hm0, muW_is GS4.out.sb]; have := HDEC.out; rw [← he1.out] at this; exact this⟩
theorem treesW (xs : List Int) (w : World) (hb : ∀ x ∈ xs, 0 ≤ x ∧ x ≤ 255) (hm : xs.length ≤ 9223372036854775807) (hs : Sentinel w 3) : Calls Tryz.prog 3 #[.string (strOfNums xs)] w fun e w' => e = .returned (.bool true) ∧ Below w.heap.size w w' := by
  have HP := hid (parseIn xs w hb hm hs)
  have HQ := hid (fun W => parseR xs W hb hm)
  have HS := hid hs
  clear hb hm hs
  generalize parseE xs = g at *
  obtain ⟨t, cd, ln, cl⟩ := g
  go_enter Tryz.func3, Tryz.ntmps3
  go_wp2_with fail
  refine HP.out.mono ?_
  rintro e w1 ⟨a1, n1, c1, a2, n2, c2, rfl, hb1, hF1⟩
  dsimp only at hF1
  have B3 : Blk ((w1.alloc (.cells #[.slice a1 n1 c1, .slice a2 n2 c2] 25)).alloc (.cells #[.int .i64 cd, .int .i64 0, .int .i64 ln, .int .i64 cl] 28)) w1.heap.size 25 #[.slice a1 n1 c1, .slice a2 n2 c2] := (Blk.newAt rfl).kept (below_alloc _)
  have B4 : Blk ((w1.alloc (.cells #[.slice a1 n1 c1, .slice a2 n2 c2] 25)).alloc (.cells #[.int .i64 cd, .int .i64 0, .int .i64 ln, .int .i64 cl] 28)) (w1.heap.size + 1) 28 #[.int .i64 cd, .int .i64 0, .int .i64 ln, .int .i64 cl] := Blk.newAt (by simp)
  have HB1 := hid hb1
  clear hb1 HP
  go_wp2_with fail
  refine (HQ.out _).mono ?_
  rintro e w2 ⟨a3, n3, c3, a4, n4, c4, rfl, hb2, hF2⟩
  dsimp only at hF2
  have D3 := B3.kept hb2
  have D4 := B4.kept hb2
  have HB2 := hid (bl_then (bl_then HB1.out (below_twor _ _)) hb2)
  have HX1 : Hid (∃ x : DV, x.d = toD t ∧ x.o = .slice a1 n1 c1 ∧ x.dd = .slice a2 n2 c2 ∧ RD 10 w2 (fun _ => True) x) := hid (by
    obtain ⟨x, h1, h2, h3, h4⟩ := hF1.out
    exact ⟨x, h1, h2, h3, RD.kept (RD.kept (RD.weak (fun _ _ => trivial) _ _ h4) (below_twor _ _)) hb2⟩)
  have HX2 : Hid (∃ x : DV, x.d = toD t ∧ x.o = .slice a3 n3 c3 ∧ x.dd = .slice a4 n4 c4 ∧ RD 10 w2 (fun _ => True) x) := hid (by
    obtain ⟨x, h1, h2, h3, h4⟩ := hF2.out
    exact ⟨x, h1, h2, h3, RD.weak (fun _ _ => trivial) _ _ h4⟩)
  have hs2 := hb2.size
  try simp at hs2
  clear hb2 HQ B3 B4 hF1 hF2
  have D5 : Blk ((w2.alloc (.cells #[.slice a3 n3 c3, .slice a4 n4 c4] 34)).alloc (.cells #[.int .i64 cd, .int .i64 0, .int .i64 ln, .int .i64 cl] 28)) w2.heap.size 34 #[.slice a3 n3 c3, .slice a4 n4 c4] := (Blk.newAt rfl).kept (below_alloc _)
  have D6 : Blk ((w2.alloc (.cells #[.slice a3 n3 c3, .slice a4 n4 c4] 34)).alloc (.cells #[.int .i64 cd, .int .i64 0, .int .i64 ln, .int .i64 cl] 28)) (w2.heap.size + 1) 28 #[.int .i64 cd, .int .i64 0, .int .i64 ln, .int .i64 cl] := Blk.newAt (by simp)
  go_wp2_with fail
  refine (awake5 _ (HS.out.kept (bl_then HB2.out (below_twor _ _)))).mono ?_
  rintro e w3 ⟨rfl, hb3⟩
  have E3 := (D3.kept (below_twor _ _)).kept hb3
  have E4 := (D4.kept (below_twor _ _)).kept hb3
  have E5 := D5.kept hb3
  have E6 := D6.kept hb3
  have HB3 := hid (bl_then (bl_then HB2.out (below_twor _ _)) hb3)
  have HY1 : Hid (∃ x : DV, x.d = toD t ∧ x.o = .slice a1 n1 c1 ∧ x.dd = .slice a2 n2 c2 ∧ RD 10 w3 (fun _ => True) x) := hid (by
    obtain ⟨x, h1, h2, h3, h4⟩ := HX1.out
    exact ⟨x, h1, h2, h3, RD.kept (RD.kept h4 (below_twor _ _)) hb3⟩)
  have HY2 : Hid (∃ x : DV, x.d = toD t ∧ x.o = .slice a3 n3 c3 ∧ x.dd = .slice a4 n4 c4 ∧ RD 10 w3 (fun _ => True) x) := hid (by
    obtain ⟨x, h1, h2, h3, h4⟩ := HX2.out
    exact ⟨x, h1, h2, h3, RD.kept (RD.kept h4 (below_twor _ _)) hb3⟩)
  have hs3 := hb3.size
  try simp at hs3
  clear hb3 D3 D4 D5 D6 HX1 HX2
  have c3' := E3.cellF
  have c4' := E4.cellF
  have c5' := E5.cellF
  have c6' := E6.cellF
  have l3' := E3.lt
  have l4' := E4.lt
  have l5' := E5.lt
  have l6' := E6.lt
  go_wp2_with fail
  obtain ⟨⟨xd, xf, xo, xdd, xr, xs'⟩, hx, e1, e2, hrd⟩ := HY1.out
  obtain ⟨⟨yd, yf, yo, ydd, yr, ys'⟩, hy, e3, e4, hrd2⟩ := HY2.out
  dsimp only at hx e1 e2 hy e3 e4
  subst e1 e2 e3 e4
  refine (sameY (n := 9) ⟨xd, xf, .slice a1 n1 c1, .slice a2 n2 c2, xr, xs'⟩ ⟨yd, yf, .slice a3 n3 c3, .slice a4 n4 c4, yr, ys'⟩ _ _ _ (hx.trans hy.symm) hrd hrd2).mono ?_
  rintro e w4 ⟨rfl, hb4⟩
  have HB4 := hid (bl_then HB3.out hb4)
  clear hb4
  go_wp2
  go_ret
  exact ⟨rfl, HB4.out⟩
theorem parseTreesW (s : ByteArray) (w : World) (hm : s.size ≤ maxLen) (hs : Sentinel w 3) : Calls Tryz.prog 3 #[.string s] w fun e w' => e = .returned (.bool true) ∧ Below w.heap.size w w' := by
  have hl : (numsS s).length ≤ 9223372036854775807 := by
    rw [numsS_len]
    unfold maxLen at hm
    have e : s.data.toList.length = s.size := rfl
    rw [e]
    exact Nat.le_trans hm (by decide)
  have := treesW (numsS s) w (numsS_bd s) hl hs
  rw [numsS_str] at this
  exact this
end Go.Proofs.YtidimdbnnnpplaaGreatDoor
