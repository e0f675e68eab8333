/-
  The document's Others.
  What is chosen of fields, in a row of one's own.
  slices.Insert of one field, wherever it goes.
-/
import Derived.Test.YtgephggcgopfgaaGreatDoorCCE
import Derived.Test.YtgephggcgopfgaaGreatDoorCCJ
import Derived.Maps.RangeWalk
import Derived.Test.YtgephggcgopfgaaGreatDoorCw8WO
import Derived.Test.YtgephggcgopfgaaGreatDoorCTG
import Derived.Laws.CopyRow
import Derived.Laws.CopyOwn
import Derived.Lib.AppendZerosOnto
import Derived.Lib.AppendZeros
import Derived.Lib.Overlaps
import Derived.Shelf.RegionOpenPlain
namespace Go.Proofs.YtgephggcgopfgaaGreatDoor
open Go.RowKit
set_option maxRecDepth 1000000
set_option linter.unusedVariables false
set_option linter.unusedSimpArgs false
set_option maxHeartbeats 2000000
theorem othersD (d : Nat) (w : World) (l : List TV) (ta : Option Addr) (tc : Nat) (h : TbR w (.slice ta l.length tc) l) (i : Nat) (hi : i < l.length) (Z : Nat → Prop) (cs : List Value) (m : CM) (hm : MsgE w Z (d + 1) cs m) (a : FT) : Calls Tryz.prog 71 #[.agg #[.slice ta l.length tc], .int .i64 (i : Int), .agg cs.toArray, .agg #[.string (strOfNums a.name), .int .i64 a.num, .int .i64 a.kind, .int .i64 a.ref, .int .i64 a.lab, .int .i64 a.one, .int .i64 a.key]] w fun e w' => ∃ ds : List Value, e = .returned (.agg ds.toArray) ∧ MsgE w' AnyZ (d + 1) ds (l[i].t.fs.foldl (othS a) m) ∧ Below w.heap.size w w' := by
  obtain ⟨_, _, e0, hn0⟩ := rowS_sl h.row
  clear e0
  have h63 : (l.length : Int) ≤ 9223372036854775807 := by omega
  have r5 : (i : Int) < (l.length : Int) := by omega
  have HTY := hid (h.ty _ (List.getElem_mem hi))
  obtain ⟨tb, tof, rfl, hbl, -, -, t2, -⟩ := row6 h.row hi
  have HMM := hid (MsgE.old (d + 1) _ _ hm)
  obtain ⟨ka, kc, va, vc, rfl, -⟩ := msg_openD hm
  clear h hm
  generalize l[i] = y at *
  obtain ⟨fa, fc, ef, lf⟩ := rowS_sl HTY.out.f
  have HRF : Hid (RowS w AnyZ 7 (.slice fa y.t.fs.length fc) y.t.fs.length (y.t.fs.flatMap cFT)) := hid (by rw [← ef]; exact HTY.out.f)
  rw [ef] at t2
  generalize y.t.fs = fs at *
  clear HTY ef
  have m1 : (fs.length : Int) ≤ 9223372036854775807 := by omega
  have RES : Hid (fs.foldl (othS a) m = (fs.take fs.length).foldl (othS a) m) := hid (by rw [List.take_length])
  go_enter Tryz.func71, Tryz.ntmps71
  go_upto_region 2 with fail
  have BT : Hid (Blk (((((w.alloc (.cells #[.slice (some ⟨tb, tof, none⟩) l.length tc] 46)).alloc (.cells #[.slice ka m.fs.length kc, .slice va m.us.length vc] 35)).alloc (.cells #[.string (strOfNums a.name), .int .i64 a.num, .int .i64 a.kind, .int .i64 a.ref, .int .i64 a.lab, .int .i64 a.one, .int .i64 a.key] 82)).alloc (.cells #[.slice none 0 0, .slice none 0 0] 35)).alloc (.cells #[.slice ka m.fs.length kc, .slice va m.us.length vc] 35)) w.heap.size 46 #[.slice (some ⟨tb, tof, none⟩) l.length tc]) := hid (((((Blk.new _ _ _).kept (below_alloc _)).kept (below_alloc _)).kept (below_alloc _)).kept (below_alloc _))
  have BF : Hid (Blk (((((w.alloc (.cells #[.slice (some ⟨tb, tof, none⟩) l.length tc] 46)).alloc (.cells #[.slice ka m.fs.length kc, .slice va m.us.length vc] 35)).alloc (.cells #[.string (strOfNums a.name), .int .i64 a.num, .int .i64 a.kind, .int .i64 a.ref, .int .i64 a.lab, .int .i64 a.one, .int .i64 a.key] 82)).alloc (.cells #[.slice none 0 0, .slice none 0 0] 35)).alloc (.cells #[.slice ka m.fs.length kc, .slice va m.us.length vc] 35)) (w.heap.size + 1 + 1) 82 #[.string (strOfNums a.name), .int .i64 a.num, .int .i64 a.kind, .int .i64 a.ref, .int .i64 a.lab, .int .i64 a.one, .int .i64 a.key]) := hid (((Blk.newAt (by simp)).kept (below_alloc _)).kept (below_alloc _))
  have BR : Hid (Blk (((((w.alloc (.cells #[.slice (some ⟨tb, tof, none⟩) l.length tc] 46)).alloc (.cells #[.slice ka m.fs.length kc, .slice va m.us.length vc] 35)).alloc (.cells #[.string (strOfNums a.name), .int .i64 a.num, .int .i64 a.kind, .int .i64 a.ref, .int .i64 a.lab, .int .i64 a.one, .int .i64 a.key] 82)).alloc (.cells #[.slice none 0 0, .slice none 0 0] 35)).alloc (.cells #[.slice ka m.fs.length kc, .slice va m.us.length vc] 35)) (w.heap.size + 1 + 1 + 1) 35 #[.slice none 0 0, .slice none 0 0]) := hid ((Blk.newAt (by simp)).kept (below_alloc _))
  have BO : Hid (Blk (((((w.alloc (.cells #[.slice (some ⟨tb, tof, none⟩) l.length tc] 46)).alloc (.cells #[.slice ka m.fs.length kc, .slice va m.us.length vc] 35)).alloc (.cells #[.string (strOfNums a.name), .int .i64 a.num, .int .i64 a.kind, .int .i64 a.ref, .int .i64 a.lab, .int .i64 a.one, .int .i64 a.key] 82)).alloc (.cells #[.slice none 0 0, .slice none 0 0] 35)).alloc (.cells #[.slice ka m.fs.length kc, .slice va m.us.length vc] 35)) (w.heap.size + 1 + 1 + 1 + 1) 35 #[.slice ka m.fs.length kc, .slice va m.us.length vc]) := hid (Blk.newAt (by simp))
  have HB : Hid (Below w.heap.size w (((((w.alloc (.cells #[.slice (some ⟨tb, tof, none⟩) l.length tc] 46)).alloc (.cells #[.slice ka m.fs.length kc, .slice va m.us.length vc] 35)).alloc (.cells #[.string (strOfNums a.name), .int .i64 a.num, .int .i64 a.kind, .int .i64 a.ref, .int .i64 a.lab, .int .i64 a.one, .int .i64 a.key] 82)).alloc (.cells #[.slice none 0 0, .slice none 0 0] 35)).alloc (.cells #[.slice ka m.fs.length kc, .slice va m.us.length vc] 35))) := hid (by exact blBy)
  have hsz : w.heap.size + 1 + 1 + 1 + 1 + 1 ≤ ((((((w.alloc (.cells #[.slice (some ⟨tb, tof, none⟩) l.length tc] 46)).alloc (.cells #[.slice ka m.fs.length kc, .slice va m.us.length vc] 35)).alloc (.cells #[.string (strOfNums a.name), .int .i64 a.num, .int .i64 a.kind, .int .i64 a.ref, .int .i64 a.lab, .int .i64 a.one, .int .i64 a.key] 82)).alloc (.cells #[.slice none 0 0, .slice none 0 0] 35)).alloc (.cells #[.slice ka m.fs.length kc, .slice va m.us.length vc] 35))).heap.size := by simp
  generalize (((((w.alloc (.cells #[.slice (some ⟨tb, tof, none⟩) l.length tc] 46)).alloc (.cells #[.slice ka m.fs.length kc, .slice va m.us.length vc] 35)).alloc (.cells #[.string (strOfNums a.name), .int .i64 a.num, .int .i64 a.kind, .int .i64 a.ref, .int .i64 a.lab, .int .i64 a.one, .int .i64 a.key] 82)).alloc (.cells #[.slice none 0 0, .slice none 0 0] 35)).alloc (.cells #[.slice ka m.fs.length kc, .slice va m.us.length vc] 35)) = wa at *
  replace t2 := cell_below t2 HB.out
  replace hbl : tb < wa.heap.size := World.block_lt_of_cell? _ _ t2
  have HMA : Hid (MsgE wa (fun b => b < w.heap.size ∨ w.heap.size + 1 + 1 + 1 + 1 + 1 ≤ b) (d + 1) [.slice ka m.fs.length kc, .slice va m.us.length vc] m) := hid (MsgE.go (keepT HB.out) (fun _ _ => trivial) (fun b hz => Or.inl hz.2) _ _ _ HMM.out)
  have xt := BT.out.cellF
  have zt := BT.out.lt
  generalize hpo : w.heap.size + 1 + 1 + 1 + 1 = po at *
  go_wp2
  clear xt zt
  go_loopw [11] (fun s11 wr => ∃ (j : Nat) (mm : CM) (oa : Option Addr) (oc : Nat) (ub : Option Addr) (uc : Nat), s11 = .int .i64 j ∧ j ≤ fs.length ∧ Hid ((fs.take j).foldl (othS a) m = mm) ∧ Hid (Blk wr (w.heap.size + 1 + 1) 82 #[.string (strOfNums a.name), .int .i64 a.num, .int .i64 a.kind, .int .i64 a.ref, .int .i64 a.lab, .int .i64 a.one, .int .i64 a.key]) ∧ Hid (Blk wr (w.heap.size + 1 + 1 + 1) 35 #[.slice none 0 0, .slice none 0 0]) ∧ Hid (Blk wr po 35 #[.slice oa mm.fs.length oc, .slice ub mm.us.length uc]) ∧ Hid (MsgE wr (fun b => b < w.heap.size ∨ po + 1 ≤ b) (d + 1) [.slice oa mm.fs.length oc, .slice ub mm.us.length uc] mm) ∧ Hid (Below w.heap.size w wr) ∧ Hid (po + 1 ≤ wr.heap.size)) (fun s11 wr => fs.length - numAt wr s11)
  case atStart => exact ⟨0, m, ka, kc, va, vc, rfl, by omega, hid rfl, BF, BR, BO, HMA, HB, hid hsz⟩
  case round =>
    obtain ⟨j, mm, oa, oc, ub, uc, rfl, hj, HFO, BF, BR, BO, HM, hb, HS⟩ := hrel
    by_cases hlt : j < fs.length
    · have k2 : (j : Int) < (fs.length : Int) := by omega
      obtain ⟨b1, o1, hfa, hb1, -, c1, -, -, c4, c5, -⟩ := row7 HRF.out hlt
      subst hfa
      have HTK : Hid ((fs.take (j + 1)).foldl (othS a) m = othS a mm fs[j]) := hid (by rw [List.take_succ_eq_append_getElem hlt, List.foldl_append, HFO.out]; rfl)
      replace c1 := cell_below c1 hb.out
      replace c4 := cell_below c4 hb.out
      replace c5 := cell_below c5 hb.out
      have hbw : b1 < wr.heap.size := World.block_lt_of_cell? _ _ c1
      generalize fs[j] = b at *
      have xf := BF.out.cellF
      have zf := BF.out.lt
      have HOT : Hid (othS a mm b = if a.lab = 4 ∧ b.lab = 4 ∧ b.one = a.one ∧ ¬ b.num = a.num then CM.mk (mm.fs.filter (notN b.num)) mm.us else mm) := hid rfl
      by_cases qc : a.lab = 4 ∧ b.lab = 4 ∧ b.one = a.one ∧ ¬ b.num = a.num
      · obtain ⟨q1, q2, q3, q4⟩ := qc
        have e1 : (a.lab == 4) = true := by simp [q1]
        have e2 : (b.lab == 4) = true := by simp [q2]
        have e3 : (b.one == a.one) = true := by simp [q3]
        have e4 : (b.num != a.num) = true := by simp [q4]
        have HN : Hid ((fs.take (j + 1)).foldl (othS a) m = CM.mk (mm.fs.filter (notN b.num)) mm.us) := hid (by rw [HTK.out, HOT.out, if_pos ⟨q1, q2, q3, q4⟩])
        go_upto_region 6 with fail
        go_quiet (fail)
        go_upto_region 7 with fail
        have HSK : Hid (∀ W, Keep (· < w.heap.size) wr W → (fun W => W.cell? ⟨b1, o1 + j * 7 + 1, none⟩ = some (.int .i64 b.num)) W) := hid (fun W hk => cell_kp c1 hk hb1)
        have xo := BO.out.cellF
        have yo := BO.out.frz
        have zo := BO.out.lt
        have HCL := hid fun W (hW : Below wr.heap.size wr W) => clearD d W _ _ mm (HM.out.kept hW) b.num
        generalize CM.mk (mm.fs.filter (notN b.num)) mm.us = m2 at *
        clear c4 c5 xf zf e1 e2 e3 e4 q1 q2 q3 q4 HOT HTK
        refine wp_region_held_drew (S := (fun W => W.cell? ⟨b1, o1 + j * 7 + 1, none⟩ = some (.int .i64 b.num))) (by kernel_rfl) ?_ (fun hHeld => ?_)
        · exact HSK.out _ (by with_reducible repeat (first | exact Keep.refl _ _ | refine kpS ?_ (by first | (simp; done) | (simp; omega) | omega) | refine kpA ?_ _ | refine kpD ?_ | refine kpN ?_ _))
        refine wpAnyH_take (i := 1) (v := ?_) rfl (by kernel_rfl) (by kernel_rfl) (by kernel_rfl) (fun _ _ _ h => h) (Or.inl ⟨by rfl, ?_⟩) (by assumption) ?_
        rotate_left
        · (intro w hSw; (try dsimp only at hSw); go_simp; (try with_reducible rfl))
        try go_frame
        refine wpAnyH_take (i := 2) (v := ?_) rfl (by kernel_rfl) (by kernel_rfl) (by kernel_rfl) (fun _ _ _ h => h) (Or.inl ⟨by rfl, ?_⟩) (by assumption) ?_
        rotate_left
        · (intro w hSw; (try dsimp only at hSw); go_simp; (try with_reducible rfl))
        try go_frame
        refine wpAnyH_take (i := 3) (v := ?_) rfl (by kernel_rfl) (by kernel_rfl) (by kernel_rfl) (fun _ _ _ h => h) (Or.inl ⟨by rfl, ?_⟩) (by assumption) ?_
        rotate_left
        · (intro w hSw; (try dsimp only at hSw); go_simp; (try with_reducible rfl))
        try go_frame
        refine wpAnyH_take (i := 4) (v := ?_) rfl (by kernel_rfl) (by kernel_rfl) (by kernel_rfl) (fun _ _ _ h => h) (Or.inl ⟨by rfl, ?_⟩) (by assumption) ?_
        rotate_left
        · (intro w hSw; (try dsimp only at hSw); go_simp; (try with_reducible rfl))
        try go_frame
        refine wpAnyH_take (i := 5) (v := ?_) rfl (by kernel_rfl) (by kernel_rfl) (by kernel_rfl) (fun _ _ _ h => h) (Or.inl ⟨by rfl, ?_⟩) (by assumption) ?_
        rotate_left
        · (intro w hSw; (try dsimp only at hSw); go_simp; (try with_reducible rfl))
        try go_frame
        refine wpAnyH_ready (rs := [0]) (by kernel_rfl) (by simp) ?_
        refine AllReadyH.cons rfl (fun K hK => ?_) AllReadyH.nil
        go_simp
        refine hK.out _ _ ?_ (fun hHeld => ?_)
        · first | assumption | exact HSK.out _ (by with_reducible repeat (first | exact Keep.refl _ _ | refine kpS ?_ (by first | (simp; done) | (simp; omega) | omega) | refine kpA ?_ _ | refine kpD ?_ | refine kpN ?_ _))
        clear hK K
        try go_frame
        refine wpAnyH_ready (rs := [6]) (by kernel_rfl) (by simp) ?_
        refine AllReadyH.cons rfl (fun K hK => ?_) AllReadyH.nil
        go_simp
        go_wp2_with (go_at_call 32; refine (HCL.out _ (by exact blBy)).mono ?_; rintro e u1 ⟨ds, rfl, hn, hbu⟩; have HX1 : Hid (Below wr.heap.size wr u1) := hid (bl_then (by exact blBy) hbu); have K1 : Hid (Keep (· < w.heap.size) wr u1) := hid (Keep.ofBelow HX1.out); have HN2 : Hid (MsgE u1 (fun b => b < w.heap.size ∨ po + 1 ≤ b) (d + 1) ds m2) := hid (MsgE.go (Keep.refl (fun _ => True) u1) (fun _ _ => trivial) (fun b hz => Or.inr (by have := HS.out; have hz2 : wr.heap.size ≤ b := (by simpa using hz); omega)) _ _ _ hn); obtain ⟨la, lc, ma, mc, rfl, -⟩ := msg_openD HN2.out; clear hbu hn)
        refine hK.out _ _ ?_ (fun hHeld => ?_)
        · first | assumption | exact HSK.out _ K1.out
        clear hK K
        try go_frame
        have BO1 := hid (BO.out.kept HX1.out)
        have xo1 := BO1.out.cellF
        have yo1 := BO1.out.frz
        have zo1 := BO1.out.lt
        have hs1 := HX1.out.size
        refine wpAnyH_ready (rs := [7]) (by kernel_rfl) (by simp) ?_
        refine AllReadyH.cons rfl (fun K hK => ?_) AllReadyH.nil
        go_simp
        refine hK.out _ _ ?_ (fun hHeld => ?_)
        · first | assumption | exact HSK.out _ (kpS (kpS K1.out (by simp; omega)) (by simp; omega))
        clear hK K
        try go_frame
        refine wpAnyH_done (by kernel_rfl) ?_ _
        go_wp2
        exact ⟨⟨j + 1, m2, la, lc, ma, mc, by simp, by omega, HN, hid (((BF.out.kept HX1.out).other (by first | (simp; done) | (simp; omega) | omega) _).other (by first | (simp; done) | (simp; omega) | omega) _), hid (((BR.out.kept HX1.out).other (by first | (simp; done) | (simp; omega) | omega) _).other (by first | (simp; done) | (simp; omega) | omega) _), hid (((BO1.out.set 0 _).set 1 _).is (by simp)), hid (MsgE.go (f := fun b => b < w.heap.size ∨ po + 1 ≤ b) (by with_reducible repeat (first | exact Keep.refl _ _ | refine kpS ?_ (by first | (simp; done) | (simp; omega) | omega) | refine kpA ?_ _ | refine kpD ?_ | refine kpN ?_ _)) (fun _ h => h) (fun _ h => h) _ _ _ HN2.out), hid (by have := below_trans hb.out HX1.out; exact blBy), hid (by have := HS.out; simp; omega)⟩, by simp [numAt]; omega⟩
      · have HN : Hid ((fs.take (j + 1)).foldl (othS a) m = mm) := hid (by rw [HTK.out, HOT.out, if_neg qc])
        have he : (a.lab == 4) = false ∨ (a.lab == 4) = true ∧ (b.lab == 4) = false ∨ (a.lab == 4) = true ∧ (b.lab == 4) = true ∧ (b.one == a.one) = false ∨ (a.lab == 4) = true ∧ (b.lab == 4) = true ∧ (b.one == a.one) = true ∧ (b.num != a.num) = false := by
          by_cases q1 : a.lab = 4 <;> by_cases q2 : b.lab = 4 <;> by_cases q3 : b.one = a.one <;> by_cases q4 : b.num = a.num <;> simp [q1, q2, q3, q4] <;> exact absurd ⟨q1, q2, q3, q4⟩ qc
        clear qc
        rcases he with e1 | ⟨e1, e2⟩ | ⟨e1, e2, e3⟩ | ⟨e1, e2, e3, e4⟩
        all_goals (
          go_upto_region 6 with fail
          go_quiet (fail)
          go_wp2
          exact ⟨⟨j + 1, mm, oa, oc, ub, uc, by simp, by omega, HN, hid (BF.out.kept (by exact blBy)), hid (BR.out.kept (by exact blBy)), hid (BO.out.kept (by exact blBy)), hid (HM.out.kept (by exact blBy)), hid (by have := hb.out; exact blBy), hid (by have := HS.out; simp; omega)⟩, by simp [numAt]; omega⟩)
    · have k2 : ¬ (j : Int) < (fs.length : Int) := by omega
      have ej : j = fs.length := by omega
      rw [ej] at HFO
      have HR := hid (RES.out.trans HFO.out)
      have xo := BO.out.cellF
      have zo := BO.out.lt
      have xr := BR.out.cellF
      have yr := BR.out.frz
      have zr := BR.out.lt
      clear ej HFO
      go_wp2
      rw [HR.out]
      exact bodyPost_ret (v := .agg #[.slice oa mm.fs.length oc, .slice ub mm.us.length uc]) (by simp [results, Tryz.results71, go_sem, xr, yr, zr]) rfl ⟨[.slice oa mm.fs.length oc, .slice ub mm.us.length uc], rfl, MsgE.go (f := fun b => b < w.heap.size ∨ po + 1 ≤ b) (by with_reducible repeat (first | exact Keep.refl _ _ | refine kpS ?_ (by first | (simp; done) | (simp; omega) | omega) | refine kpA ?_ _ | refine kpD ?_ | refine kpN ?_ _)) (fun _ h => h) (fun _ _ => trivial) _ _ _ HM.out, by have := hb.out; exact blBy⟩
theorem chosenFO (w : World) (Z : Nat → Prop) (d : Nat) (xs : List (CF CM)) (a : Option Addr) (c : Nat) (h : FlsR w Z d (.slice a xs.length c) xs) (fn : FuncId) (caps : Array Value) (hcf : ∀ (args : Array Value) (W : World), (callFunc fn args).run Tryz.prog W = .ok (.enter fn args) W) (P : CF CM → Bool)
    (hf : ∀ (W : World), Below w.heap.size w W → ∀ (cs : List Value) (x : CF CM), x ∈ xs → FmF d W Z cs x → Calls Tryz.prog fn (#[.agg cs.toArray] ++ caps) W fun e w' => e = .returned (.bool (P x)) ∧ Below W.heap.size W w') : Calls Tryz.prog 66 #[.slice a xs.length c, .func (.func fn) #[] caps] w fun e w' => ∃ a' c', e = .returned (.slice a' (xs.filter P).length c') ∧ OwnA w' w.heap.size Z 29 3 (FmF d) (.slice a' (xs.filter P).length c') (xs.filter P) ∧ Below w.heap.size w w' := by
  obtain ⟨_, _, e1, l1⟩ := RowM.sl h
  clear e1
  have m1 : (xs.length : Int) ≤ 9223372036854775807 := by omega
  have H1 := hid h
  have HF := hid hf
  clear h hf
  go_enter Tryz.func66, Tryz.ntmps66
  go_wp2
  go_loopw [5, 10] (fun s5 s10 wr => ∃ (j n : Nat) (oa : Option Addr) (oc : Nat), s5 = .slice oa n oc ∧ s10 = .int .i64 j ∧ j ≤ xs.length ∧ Hid (((xs.take j).filter P).length = n) ∧ Hid (OwnA wr w.heap.size Z 29 3 (FmF d) (.slice oa n oc) ((xs.take j).filter P)) ∧ Hid (Below w.heap.size w wr)) (fun s5 s10 wr => xs.length - numAt wr s10)
  case atStart => exact ⟨0, 0, none, 0, rfl, rfl, by omega, hid rfl, hid (OwnA.nil _ _ _ _ _ _), hid (Below.refl _ _)⟩
  case round =>
    obtain ⟨j, n, oa, oc, rfl, rfl, hj, HLN, HO, hb⟩ := hrel
    by_cases hlt : j < xs.length
    · have k2 : (j : Int) < (xs.length : Int) := by omega
      obtain ⟨b1, o1, ka1, kc1, va1, vc1, rfl, -, hb1, c0, c1, c2, he⟩ := fls_at H1.out hlt
      have HE := hid he
      have HTK : Hid ((xs.take (j + 1)).filter P = (xs.take j).filter P ++ (if P xs[j] = true then [xs[j]] else [])) := hid (by rw [List.take_succ_eq_append_getElem hlt, List.filter_append]; simp only [List.filter_cons, List.filter_nil])
      have HME := hid (List.getElem_mem hlt)
      have HLB : Hid (n ≤ 4000000) := hid (by rw [← HLN.out]; exact fl_len l1 j)
      replace c0 := cell_below c0 hb.out
      replace c1 := cell_below c1 hb.out
      replace c2 := cell_below c2 hb.out
      replace hb1 : b1 < wr.heap.size := World.block_lt_of_cell? _ _ c0
      clear he
      generalize xs[j] = x at *
      go_wp2_with fail
      refine (HF.out _ (by have := hb.out; exact blBy) [.int .i64 x.num, .slice ka1 x.ks.length kc1, .slice va1 x.vs.length vc1] x HME.out (Fam.go (famF d) HE.out (keepT (by have := hb.out; exact blBy)) (fun _ _ => trivial) (fun _ h => h))).mono ?_
      rintro e w1 ⟨rfl, hbx⟩
      have Bx : Blk w1 wr.heap.size 29 #[.int .i64 x.num, .slice ka1 x.ks.length kc1, .slice va1 x.vs.length vc1] := (Blk.new _ _ _).kept hbx
      have HO1 := hid (HO.out.kept (famF d) (below_trans (below_alloc _) hbx))
      have hbw : Hid (Below w.heap.size w w1) := hid (bl_then (by have := hb.out; exact blBy) hbx)
      clear hbx HO c0 c1 c2
      cases hq : P x with
      | false =>
        rw [hq, if_neg (by simp), List.append_nil] at HTK
        go_wp2
        exact ⟨⟨j + 1, n, oa, oc, rfl, by simp, by omega, hid (by rw [HTK.out]; exact HLN.out), hid (by rw [HTK.out]; exact HO1.out), hbw⟩, by simp [numAt]; omega⟩
      | true =>
        rw [hq, if_pos rfl] at HTK
        have HZ : Hid (FmF d w1 (ZofA w1 Z (.slice oa n oc)) [.int .i64 x.num, .slice ka1 x.ks.length kc1, .slice va1 x.vs.length vc1] x) := hid (zofA_old (famF d) HO1.out HE.out hbw.out)
        obtain ⟨la, lc, x1, HRUN, HO2, HG⟩ := OwnA.push (famF d) 29 32 56 (.agg #[.int .i64 0, .slice none 0 0, .slice none 0 0]) Tryz.underlying32 Tryz.infoF rfl (by decide) (by decide) HO1.out HZ.out hbw.out.size (by rw [HLN.out]; exact HLB.out)
        rw [HLN.out] at HRUN HO2 HG
        have hb2 : Hid (Below w.heap.size w x1) := hid (hbw.out.trans (HO1.out.bel HG.out (Nat.le_refl _) hbw.out.size))
        have xx := Bx.cellF
        have zx := Bx.lt
        go_wp2_with (first | (at_builtin; refine wpList_append_ran rfl _ _ 32 32 rfl rfl _ _ (.slice la (n + 1) lc) x1 rfl rfl HRUN.out ?_))
        exact ⟨⟨j + 1, n + 1, la, lc, rfl, by simp, by omega, hid (by rw [HTK.out, List.length_append, HLN.out]; rfl), hid (by rw [HTK.out]; exact HO2.out), hb2⟩, by simp [numAt]; omega⟩
    · have k2 : ¬ (j : Int) < (xs.length : Int) := by omega
      have e1 : xs.take j = xs := List.take_of_length_le (by omega)
      rw [e1] at HO HLN
      have HRW := HO
      rw [← HLN.out] at HRW ⊢
      clear e1 HLN HO
      go_wp2
      go_ret
      exact ⟨oa, oc, rfl, HRW.out, hb.out⟩
set_option maxHeartbeats 1000000
theorem Tryz.infoFI : (Tryz.prog.info? 29).map (fun i => (i.zero, i.size, i.bytes)) = some (some (.agg #[.int .i64 0, .slice none 0 0, .slice none 0 0]), 3, 56) := by kernel_rfl
theorem run_copy_rowS (P : Program) (w : World) (dT sT ty elem : TypeId) (g o dLen dCap : Nat) (a : Addr) (sLen sCap : Nat) (cur : Array Value) (t : TypeId) (cs : List Value) (s n : Nat)
    (hu : P.underlying dT = some (.slice elem)) (hs : (P.info? elem).map (·.size) = some s)
    (hg : w.heap[g]? = some (.cells cur t (0, 0))) (hn : n = Nat.min sLen dLen) (hcl : cs.length = n * s)
    (hsrc : ∀ j v, cs[j]? = some v → w.cell? (a.add j) = some v) (hfit : o + cs.length ≤ cur.size) (h1 : ∀ v ∈ cs, v.oneCell' = true) :
    (Builtin.copy_ #[dT, sT] ty #[.slice (some ⟨g, o, none⟩) dLen dCap, .slice (some a) sLen sCap]).run P w =
      .ok (goInt n) (w.setRow g (cur.toList.take o ++ cs ++ cur.toList.drop (o + cs.length)).toArray) := by
  have hl := run_loadCells_list (P := P) w a cs hsrc
  have hst := run_storeCells_at P g o t cs 0 cur w hg (by simpa using hfit) h1
  cases hq : P.info? elem with
  | none => simp [hq] at hs
  | some i =>
    have hi : i.size = s := by simpa [hq] using hs
    rw [hcl] at hl
    simp [Builtin.copy_, run_underlying hu, Builtin.lenOf, Builtin.firstCells, sizeOf, typeInfo, hq, hi, ← hn, hl, hst]
theorem step_copy_ran {P : Program} {ops : Array Oper} {o : Oper} {a : Act} {w : World} {K : Act → World → Prop} {Q : Exit → Act → World → Prop} {E : Prop}
    (hg : o.guard = none) (d x : Operand) (t : TypeId) (hop : o.op = Op.call { callee := Callee.builtin Builtin.copy, args := #[d, x], argTypes := #[t, t] })
    (v u : Value) (hd : a.eval d = v) (hx : a.eval x = u) {v' : Value} {w' : World} (hr : (Builtin.copy_ #[t, t] o.type #[v, u]).run P w = .ok v' w') (hK : K (a.put o.dst v') w') :
    if Region.wanted o (yielded ops a.tmps) = true then Oper.wp P o a w K Q else E := by
  have hw : Region.wanted o (yielded ops a.tmps) = true := by simp [Region.wanted, hg]
  rw [if_pos hw]
  unfold Oper.wp
  simp [execOp, hop, resolve, invoke, builtin, hd, hx, hr, Result.andThen]
  exact hK
theorem wpList_appendz_ran {P : Program} {w : World} {ops : Array Oper} {rest : List Oper} {o : Oper} {a : Act} {Q : Exit → Act → World → Prop} (hgd : o.guard = none) (d s : Operand) (t t' : TypeId)
    (ho : o.op = .call { callee := .builtin .append, args := #[d, s], argTypes := #[t, t'] }) (v u : Value) (hd : a.eval d = v) (hs : a.eval s = u) {v' : Value} {w' : World}
    (hr : (Builtin.append_ #[t, t'] o.type #[v, u]).run P w = .ok v' w') (h : wpList P ops Q rest (a.put o.dst v') w') : wpList P ops Q (o :: rest) a w := by
  refine wpList_plain hgd fun K hK => ?_
  unfold Oper.wp
  simp [execOp, ho, resolve, invoke, builtin, hd, hs, hr, Result.andThen]
  exact hK _ _ h
theorem below_drew' {B : Nat} {w0 w : World} (hb : Below B w0 w) : Below B w0 w.drew := ⟨hb.os, hb.tape, hb.output, hb.size, hb.block⟩
theorem add_lit (b o j : Nat) : (⟨b, o, none⟩ : Addr).add j = ⟨b, o + j, none⟩ := by unfold Addr.add; split <;> simp_all
theorem cell_of {w : World} {g : Nat} {cur : Array Value} {t : TypeId} {f : Nat × Nat} (h : w.heap[g]? = some (.cells cur t f)) (j : Nat) : w.cell? ⟨g, j, none⟩ = cur[j]? := by unfold World.cell?; simp [h]
theorem appendV (base : Nat) (v : Value) (n : Nat) (fl : List Value) (w : World) (h : w.ownsRow base 29 3 v n fl) (vb : Nat) (c0 c1 c2 : Value) (hv : Blk w vb 29 #[c0, c1, c2]) (h1 : ∀ u ∈ [c0, c1, c2], u.oneCell' = true) (hb : base ≤ w.heap.size) (hn : n ≤ 4000000) :
    ∃ a c w', Hid ((Builtin.append_ #[32, 32] 32 #[v, .slice (some ⟨vb, 0, none⟩) 1 1]).run Tryz.prog w = .ok (.slice a (n + 1) c) w') ∧ Hid (w'.ownsRow base 29 3 (.slice a (n + 1) c) (n + 1) (fl ++ [c0, c1, c2])) ∧ Hid (Grow w w' v (.slice a (n + 1) c)) := by
  obtain ⟨i0, hi, hz0, hz1, hz2⟩ := info_parts Tryz.infoFI
  have hcell : ∀ j u, [c0, c1, c2][j]? = some u → w.cell? ((⟨vb, 0, none⟩ : Addr).add j) = some u := by
    intro j u hu
    rw [add_lit, Nat.zero_add]
    exact hv.cell j u (by simpa using hu)
  obtain ⟨v', w', hr, ho, hg⟩ := run_append_mine (P := Tryz.prog) w base 32 32 29 i0 _ 3 56 Tryz.underlying32 hi hz0 hz1 hz2 rfl (by decide) v n fl h ⟨vb, 0, none⟩ 1 1 [c0, c1, c2] (by simp) hcell h1 (by unfold maxLen; omega) (by omega) hb
  obtain ⟨a, c, rfl⟩ := own_shape ho
  exact ⟨a, c, w', hid hr, hid ho, hid hg⟩
theorem insertEnd (w : World) (base : Nat) (v : Value) (n : Nat) (fl : List Value) (h : w.ownsRow base 29 3 v n fl) (vb : Nat) (c0 c1 c2 : Value) (hv : Blk w vb 29 #[c0, c1, c2]) (h1 : ∀ u ∈ [c0, c1, c2], u.oneCell' = true) (hb : base ≤ w.heap.size) (hn : n ≤ 4000000) : Calls Tryz.prog 115 #[v, .int .i64 (n : Int), .slice (some ⟨vb, 0, none⟩) 1 1] w fun e w' => ∃ a c, e = .returned (.slice a (n + 1) c) ∧ w'.ownsRow base 29 3 (.slice a (n + 1) c) (n + 1) (fl ++ [c0, c1, c2]) ∧ Grow w w' v (.slice a (n + 1) c) := by
  obtain ⟨la, lc, x3, HRUN, HO, HG⟩ := appendV base v n fl w h vb c0 c1 c2 hv h1 hb hn
  have m1 : (n : Int) ≤ 9223372036854775807 := by omega
  rcases h.2 with ⟨rfl, h0⟩ | ⟨g, cap, cur, rfl, hbg, hg, hnc, hcm, hcs2, htake⟩
  · subst h0
    clear h hv
    go_enter Tryz.func115, Tryz.ntmps115
    go_wp2_with (first | (at_builtin; refine wpList_append_ran rfl _ _ 32 32 rfl rfl _ _ (.slice la (0 + 1) lc) x3 rfl rfl HRUN.out ?_))
    go_ret
    exact ⟨la, lc, rfl, HO.out, HG.out⟩
  · have k1 : (n : Int) ≤ (cap : Int) := by omega
    have k2 : (cap : Int) ≤ 9223372036854775807 := by unfold maxLen at hcm; omega
    have HGA : Hid (∀ c', Grow w x3 (.slice (some ⟨g, 0, none⟩) n c') (.slice la (n + 1) lc)) := hid fun c' => ⟨HG.out.os, HG.out.tape, HG.out.output, HG.out.size, HG.out.block, HG.out.own⟩
    clear h hv hg hcs2 htake
    go_enter Tryz.func115, Tryz.ntmps115
    go_wp2_with (first | (at_builtin; refine wpList_append_ran rfl _ _ 32 32 rfl rfl _ _ (.slice la (n + 1) lc) x3 rfl rfl HRUN.out ?_))
    all_goals (go_ret; exact ⟨la, lc, rfl, HO.out, HGA.out _⟩)
theorem tk_app {α : Type} {a b : List α} {k : Nat} (h : a.length = k) : (a ++ b).take k = a := by rw [← h, List.take_left']; rfl
theorem dr_app {α : Type} {a b : List α} {k : Nat} (h : a.length = k) : (a ++ b).drop k = b := by rw [← h, List.drop_left']; rfl
theorem szFI : (Tryz.prog.info? 29).map (·.size) = some 3 := by
  obtain ⟨i0, hi, hz0, hz1, hz2⟩ := info_parts Tryz.infoFI
  rw [hi]
  simp [hz1]
set_option maxRecDepth 100000 in
theorem insertGrow (w : World) (base g n i : Nat) (fl : List Value) (hg : Blk w g 29 fl.toArray) (hfl : fl.length = n * 3) (hi : i < n) (vb : Nat) (c0 c1 c2 : Value) (hv : Blk w vb 29 #[c0, c1, c2]) (h1 : ∀ u ∈ [c0, c1, c2], u.oneCell' = true) (h1f : ∀ u ∈ fl, u.oneCell' = true) (hb : base ≤ w.heap.size) (hn : n ≤ 4000000) : Calls Tryz.prog 115 #[.slice (some ⟨g, 0, none⟩) n n, .int .i64 (i : Int), .slice (some ⟨vb, 0, none⟩) 1 1] w fun e w' => ∃ a c, e = .returned (.slice a (n + 1) c) ∧ w'.ownsRow base 29 3 (.slice a (n + 1) c) (n + 1) (fl.take (i * 3) ++ [c0, c1, c2] ++ fl.drop (i * 3)) ∧ Below w.heap.size w w' ∧ a = some ⟨w.heap.size, 0, none⟩ := by
  obtain ⟨i0, hi0, hz0, hzs, hzb⟩ := info_parts Tryz.infoFI
  have hold : (Builtin.firstCells i0.size i (.slice (some ⟨g, 0, none⟩) i n)).run Tryz.prog w.drew = .ok (fl.take (i * 3)).toArray w.drew := by
    rw [hzs]
    exact run_firstCells_some w.drew 3 i ⟨g, 0, none⟩ i n (fl.take (i * 3)) (by rw [List.length_take]; omega) (fun j v hj => by
      rw [add_lit, Nat.zero_add]
      rw [List.getElem?_take] at hj
      split at hj
      · exact hg.cell j v (by simpa using hj)
      · cases hj)
  have HA := fun ty => Lib.run_append_grow_zeros (P := Tryz.prog) w 32 3 ty 29 i0 _ .i64 .i64 Tryz.underlying32 Tryz.underlying3 hi0 hz0 (some ⟨g, 0, none⟩) i n (fl.take (i * 3)) hold (n + 1 - i) (by omega) (by omega) (by omega) (by omega) (by rw [hzb]; omega) (by rw [hzb]; exact growslice_fits (by omega) (by omega))
  simp only [show i + (n + 1 - i) = n + 1 by omega] at HA
  obtain ⟨G, hG⟩ : ∃ G, G = grownCap w (n + 1) n 29 := ⟨_, rfl⟩
  simp only [← hG] at HA
  have hGn : n + 1 ≤ G := by rw [hG]; exact grownCap_ge w _ _ _
  have hGm : G ≤ maxLen := by rw [hG]; exact grownCap_le_maxLen w _ _ _ (by unfold maxLen; omega)
  clear hG
  obtain ⟨ROW, hROW⟩ : ∃ ROW : Array Value, ROW = (fl.take (i * 3)).toArray ++ Builtin.zeroCells (Value.agg #[.int .i64 0, .slice none 0 0, .slice none 0 0]).cells (n + 1 - i) ++ Builtin.zeroCells (Value.agg #[.int .i64 0, .slice none 0 0, .slice none 0 0]).cells (G - (n + 1)) := ⟨_, rfl⟩
  simp only [← hROW] at HA
  have HA2 := HA
  have hfi : (fl.take (i * 3)).length = i * 3 := by rw [List.length_take]; omega
  have hRS : ROW.size = G * 3 := by
    rw [hROW]
    simp only [Array.size_append, List.size_toArray, hfi, Builtin.zeroCells, Array.size_map, Array.size_range]
    simp only [Value.cells]
    show i * 3 + (n + 1 - i) * 3 + (G - (n + 1)) * 3 = G * 3
    omega
  have hRT : ROW.toList.take (i * 3) = fl.take (i * 3) := by
    rw [hROW]
    simp only [Array.toList_append, List.append_assoc]
    exact tk_app hfi
  clear hROW hold
  obtain ⟨R2, hR2⟩ : ∃ R2 : Array Value, R2 = (ROW.toList.take (i * 3) ++ [c0, c1, c2] ++ ROW.toList.drop (i * 3 + [c0, c1, c2].length)).toArray := ⟨_, rfl⟩
  have hR2s : R2.size = G * 3 := by
    rw [hR2]
    simp [hRS]
    omega
  obtain ⟨R3, hR3⟩ : ∃ R3 : Array Value, R3 = (R2.toList.take ((i + 1) * 3) ++ fl.drop (i * 3) ++ R2.toList.drop ((i + 1) * 3 + (fl.drop (i * 3)).length)).toArray := ⟨_, rfl⟩
  have hR3s : R3.size = G * 3 := by
    rw [hR3]
    simp [hR2s]
    omega
  have hR3t : R3.toList.take ((n + 1) * 3) = fl.take (i * 3) ++ [c0, c1, c2] ++ fl.drop (i * 3) := by
    have e2 : R2.toList.take ((i + 1) * 3) = fl.take (i * 3) ++ [c0, c1, c2] := by
      rw [hR2, List.toList_toArray, hRT]
      exact tk_app (by rw [List.length_append, hfi]; simp; omega)
    rw [hR3, List.toList_toArray, e2]
    exact tk_app (by rw [List.length_append, List.length_append, hfi, List.length_drop]; simp; omega)
  have hN : ∀ (W : World), W.heap = (w.drew.alloc (.cells ROW 29)).heap → W.heap[w.heap.size]? = some (.cells ROW 29 (0, 0)) := fun W hW => by
    rw [hW]
    show (w.heap.push _)[w.heap.size]? = _
    simp
  have hO : ∀ (W : World), W.heap = (w.drew.alloc (.cells ROW 29)).heap → ∀ k, k < w.heap.size → W.heap[k]? = w.heap[k]? := fun W hW k hk => by
    rw [hW]
    show (w.heap.push _)[k]? = _
    rw [Array.getElem?_push_lt hk, Array.getElem?_eq_getElem hk]
  have hvw := hv.lt
  have hgw := hg.lt
  have hcpA : ∀ (W : World), W.heap = (w.drew.alloc (.cells ROW 29)).heap → ∀ ty dc, (Builtin.copy_ #[32, 32] ty #[.slice (some ⟨w.heap.size, i * 3, none⟩) (n + 1 - i) dc, .slice (some ⟨vb, 0, none⟩) 1 1]).run Tryz.prog W = .ok (goInt 1) (W.setRow w.heap.size R2) := fun W hW ty dc => by
    rw [hR2]
    exact run_copy_rowS Tryz.prog W _ _ ty 29 w.heap.size (i * 3) (n + 1 - i) dc ⟨vb, 0, none⟩ 1 1 ROW 29 [c0, c1, c2] 3 1 Tryz.underlying32 szFI (hN W hW) (by simp only [Nat.min_def]; split <;> omega) (by simp)
      (fun j v hj => by rw [add_lit, Nat.zero_add, cell_of ((hO W hW vb hvw).trans hv)]; simpa using hj) (by simp [hRS]; omega) h1
  have hcpB : ∀ (W : World), W.heap = ((w.drew.alloc (.cells ROW 29)).setRow w.heap.size R2).heap → ∀ ty dc sc, (Builtin.copy_ #[32, 32] ty #[.slice (some ⟨w.heap.size, (i + 1) * 3, none⟩) (n + 1 - (i + 1)) dc, .slice (some ⟨g, i * 3, none⟩) (n - i) sc]).run Tryz.prog W = .ok (goInt ((n - i : Nat) : Int)) (W.setRow w.heap.size R3) := fun W hW ty dc sc => by
    rw [hR3]
    have q1 : W.heap[w.heap.size]? = some (.cells R2 29 (0, 0)) := by
      rw [hW]
      exact setRow_heap _ _ ROW R2 _ _ (hN _ rfl)
    have q2 : W.heap[g]? = some (.cells fl.toArray 29 (0, 0)) := by
      rw [hW, setRow_other _ _ _ _ (by omega), hO _ rfl g hgw]
      exact hg
    exact run_copy_rowS Tryz.prog W _ _ ty 29 w.heap.size ((i + 1) * 3) (n + 1 - (i + 1)) dc ⟨g, i * 3, none⟩ (n - i) sc R2 29 (fl.drop (i * 3)) 3 (n - i) Tryz.underlying32 szFI q1 (by simp only [Nat.min_def]; split <;> omega) (by rw [List.length_drop]; omega)
      (fun j v hj => by rw [add_lit, cell_of q2]; rw [List.getElem?_drop] at hj; simpa using hj) (by rw [List.length_drop, hR2s]; omega) (fun u hu => h1f u (List.mem_of_mem_drop hu))
  have hfin : ∀ (W : World), W.heap = ((w.drew.alloc (.cells ROW 29)).setRow w.heap.size R2).heap → (W.setRow w.heap.size R3).ownsRow base 29 3 (.slice (some ⟨w.heap.size, 0, none⟩) (n + 1) G) (n + 1) (fl.take (i * 3) ++ [c0, c1, c2] ++ fl.drop (i * 3)) := fun W hW => by
    refine ⟨by simp; omega, .inr ⟨w.heap.size, G, R3, rfl, hb, ?_, hGn, hGm, hR3s, hR3t⟩⟩
    refine setRow_heap _ _ R2 R3 _ _ ?_
    rw [hW]
    exact setRow_heap _ _ ROW R2 _ _ (hN _ rfl)
  have HFIN := hid hfin
  have k0 : ¬ ((i : Int) = (n : Int)) := by omega
  have k1 : (i : Int) ≤ (n : Int) := by omega
  have k2 : (n : Int) < (n : Int) + 1 := by omega
  have HK3 : Hid ((n : Int) + 1 - (i : Int) = ((n + 1 - i : Nat) : Int)) := hid (by omega)
  have k5 : (G : Int) ≤ 9223372036854775807 := by unfold maxLen at hGm; omega
  have HA' : ∀ ty, (Builtin.append_ #[32, 3] ty #[.slice (some ⟨g, 0, none⟩) i n, .int .i64 ((n : Int) + 1 - (i : Int))]).run Tryz.prog w = .ok (.slice (some ⟨w.heap.size, 0, none⟩) (n + 1) G) (w.drew.alloc (.cells ROW 29)) := fun ty => by
    rw [HK3.out]
    exact HA2 ty
  have k6 : ¬ (G = i) := by omega
  have k7 : ¬ (G = i + 1) := by omega
  have k8 : ¬ (n = i) := by omega
  clear HA HA2 hfin hRS hRT hR2 hR3 hR2s hR3s hR3t hGm hfi hN hO hi0 hz0 hzs hzb
  have hE1 : ((w.alloc (.cells ROW 29)).drew).heap = (w.drew.alloc (.cells ROW 29)).heap := rfl
  have hE2 : (((w.alloc (.cells ROW 29)).drew.setRow w.heap.size R2).drew).heap = ((w.drew.alloc (.cells ROW 29)).setRow w.heap.size R2).heap := rfl
  have HAA := hid HA'
  have HCA := hid hcpA
  have HCB := hid hcpB
  clear HA' hcpA hcpB hg hv h1 h1f hfl
  go_enter Tryz.func115, Tryz.ntmps115
  go_wp2_with (first
    | (at_builtin; refine wpList_appendz_ran rfl _ _ _ _ rfl _ _ rfl rfl (HAA.out _) ?_))
  rw [HCA.out _ hE1 _ _]
  have hw1 : IntKind.i64.wrap ((i : Int) + 1) = (i : Int) + 1 := by rw [IntKind.wrap_i64]; omega
  have hb1 : (0 : Int) ≤ (i : Int) + 1 := by omega
  have htn : ((i : Int) + 1).toNat = i + 1 := by omega
  have hb4 : (i : Int) + 1 ≤ (n : Int) + 1 := by omega
  go_wp2
  go_region_law (refine step_copy_ran rfl _ _ 32 rfl (.slice (some ⟨w.heap.size, (i + 1) * 3, none⟩) (n + 1 - (i + 1)) (G - (i + 1))) (.slice (some ⟨g, i * 3, none⟩) (n - i) (n - i)) (by simp [Act.eval, Act.put]) (by simp [Act.eval, Act.put]) (HCB.out _ hE2 3 (G - (i + 1)) (n - i)) ?_)
  go_wp2
  go_ret
  exact ⟨_, G, rfl, HFIN.out _ hE2, below_setRow (below_drew' (below_setRow (below_drew' (below_alloc _)) (Nat.le_refl _) _)) (Nat.le_refl _) _, rfl⟩
theorem insertShift (w : World) (base g n cap i : Nat) (fl : List Value) (cur : Array Value) (hg : Blk w g 29 cur) (hbg : base ≤ g) (hcm : cap ≤ maxLen) (hcs : cur.size = cap * 3) (htk : cur.toList.take (n * 3) = fl) (hroom : n + 1 ≤ cap) (hi : i < n) (vb : Nat) (hvb : vb ≠ g) (c0 c1 c2 : Value) (hv : Blk w vb 29 #[c0, c1, c2]) (h1 : ∀ u ∈ [c0, c1, c2], u.oneCell' = true) (h1f : ∀ u ∈ fl, u.oneCell' = true) (hn : n ≤ 4000000) : Calls Tryz.prog 115 #[.slice (some ⟨g, 0, none⟩) n cap, .int .i64 (i : Int), .slice (some ⟨vb, 0, none⟩) 1 1] w fun e w' => ∃ S, e = .returned (.slice (some ⟨g, 0, none⟩) (n + 1) cap) ∧ w' = (w.drew.setRow g S) ∧ w'.ownsRow base 29 3 (.slice (some ⟨g, 0, none⟩) (n + 1) cap) (n + 1) (fl.take (i * 3) ++ [c0, c1, c2] ++ fl.drop (i * 3)) := by
  have hfl : fl.length = n * 3 := by rw [← htk, List.length_take, Array.length_toList, hcs]; omega
  have hfi : (fl.take (i * 3)).length = i * 3 := by rw [List.length_take]; omega
  have hci : cur.toList.take (i * 3) = fl.take (i * 3) := by rw [← htk, List.take_take]; congr 1; omega
  obtain ⟨S1, hS1⟩ : ∃ S1 : Array Value, S1 = (cur.toList.take ((i + 1) * 3) ++ fl.drop (i * 3) ++ cur.toList.drop ((i + 1) * 3 + (fl.drop (i * 3)).length)).toArray := ⟨_, rfl⟩
  have hS1s : S1.size = cap * 3 := by
    rw [hS1]
    simp [hcs]
    omega
  obtain ⟨S2, hS2⟩ : ∃ S2 : Array Value, S2 = (S1.toList.take (i * 3) ++ [c0, c1, c2] ++ S1.toList.drop (i * 3 + [c0, c1, c2].length)).toArray := ⟨_, rfl⟩
  have hS2s : S2.size = cap * 3 := by
    rw [hS2]
    simp [hS1s]
    omega
  have hS2t : S2.toList.take ((n + 1) * 3) = fl.take (i * 3) ++ [c0, c1, c2] ++ fl.drop (i * 3) := by
    have e0 : (cur.toList.take ((i + 1) * 3)).length = (i + 1) * 3 := by rw [List.length_take, Array.length_toList, hcs]; omega
    have e1 : S1.toList.take (i * 3) = fl.take (i * 3) := by
      rw [hS1, List.toList_toArray, List.append_assoc, List.take_append_of_le_length (by omega), List.take_take, ← hci]
      congr 1
      omega
    have e2 : S1.toList.drop (i * 3 + [c0, c1, c2].length) = fl.drop (i * 3) ++ cur.toList.drop ((i + 1) * 3 + (fl.drop (i * 3)).length) := by
      rw [hS1, List.toList_toArray, List.append_assoc]
      exact dr_app (by rw [e0]; simp; omega)
    rw [hS2, List.toList_toArray, e1, e2, ← List.append_assoc]
    exact tk_app (by rw [List.length_append, List.length_append, hfi, List.length_drop]; simp; omega)
  have hcp1 : ∀ (W : World), W.heap = w.heap → ∀ ty dc sc, (Builtin.copy_ #[32, 32] ty #[.slice (some ⟨g, (i + 1) * 3, none⟩) (n + 1 - (i + 1)) dc, .slice (some ⟨g, i * 3, none⟩) (n + 1 - i) sc]).run Tryz.prog W = .ok (goInt ((n - i : Nat) : Int)) (W.setRow g S1) := fun W hW ty dc sc => by
    rw [hS1]
    have q1 : W.heap[g]? = some (.cells cur 29 (0, 0)) := by rw [hW]; exact hg
    exact run_copy_rowS Tryz.prog W _ _ ty 29 g ((i + 1) * 3) (n + 1 - (i + 1)) dc ⟨g, i * 3, none⟩ (n + 1 - i) sc cur 29 (fl.drop (i * 3)) 3 (n - i) Tryz.underlying32 szFI q1 (by simp only [Nat.min_def]; split <;> omega) (by rw [List.length_drop]; omega)
      (fun j v hj => by
        rw [add_lit, cell_of q1]
        rw [List.getElem?_drop, ← htk, List.getElem?_take] at hj
        split at hj
        · simpa using hj
        · cases hj) (by rw [List.length_drop, hcs]; omega) (fun u hu => h1f u (List.mem_of_mem_drop hu))
  have hcp2 : ∀ (W : World), W.heap = (w.setRow g S1).heap → ∀ ty dc, (Builtin.copy_ #[32, 32] ty #[.slice (some ⟨g, i * 3, none⟩) (n + 1 - i) dc, .slice (some ⟨vb, 0, none⟩) 1 1]).run Tryz.prog W = .ok (goInt 1) (W.setRow g S2) := fun W hW ty dc => by
    rw [hS2]
    have q1 : W.heap[g]? = some (.cells S1 29 (0, 0)) := by rw [hW]; exact setRow_heap _ _ cur S1 _ _ hg
    have q2 : W.heap[vb]? = some (.cells #[c0, c1, c2] 29 (0, 0)) := by rw [hW, setRow_other _ _ _ _ hvb]; exact hv
    exact run_copy_rowS Tryz.prog W _ _ ty 29 g (i * 3) (n + 1 - i) dc ⟨vb, 0, none⟩ 1 1 S1 29 [c0, c1, c2] 3 1 Tryz.underlying32 szFI q1 (by simp only [Nat.min_def]; split <;> omega) (by simp)
      (fun j v hj => by rw [add_lit, Nat.zero_add, cell_of q2]; simpa using hj) (by simp [hS1s]; omega) h1
  have hsz : ∀ W : World, (Go.sizeOf 29).run Tryz.prog W = .ok 3 W := fun W => by
    obtain ⟨i0, hi0, _, hz1, _⟩ := info_parts Tryz.infoFI
    simp [sizeOf, typeInfo, hi0, hz1]
  have hov : ∀ (W : World), W.heap = w.heap → ∀ lb cb, (callFunc 140 #[.slice (some ⟨vb, 0, none⟩) 1 1, .slice (some ⟨g, (i + 1) * 3, none⟩) lb cb]).run Tryz.prog W = .ok (.value (.bool false)) W := fun W hW lb cb => by
    have s1 : W.shape? vb = some (29, 3) := by unfold World.shape?; rw [hW, show w.heap[vb]? = some (.cells #[c0, c1, c2] 29 (0, 0)) from hv]; rfl
    have s2 : W.shape? g = some (29, cap * 3) := by unfold World.shape?; rw [hW, show w.heap[g]? = some (.cells cur 29 (0, 0)) from hg]; simp [hcs]
    have f1 : ∀ j, W.frozen? ⟨vb, j, none⟩ = false := fun j => by unfold World.frozen?; rw [show W.heap[(⟨vb, j, none⟩ : Addr).block]? = some (.cells #[c0, c1, c2] 29 (0, 0)) from by rw [hW]; exact hv]; simp
    rw [run_callFunc_extern Tryz.func140 (by kernel_rfl) (by kernel_rfl) (by kernel_rfl) (e := Extern.SlicesOverlaps.overlaps #[32, 32] #[4]) (by kernel_rfl),
      Lib.run_overlaps_apart W 32 4 29 Tryz.underlying32 3 hsz ⟨vb, 0, none⟩ ⟨g, (i + 1) * 3, none⟩ 1 1 lb cb hvb 29 29 3 (cap * 3) s1 s2 (by omega) (f1 0) (f1 3)]
    rfl
  have HFIN : Hid ((w.drew.setRow g S2).ownsRow base 29 3 (.slice (some ⟨g, 0, none⟩) (n + 1) cap) (n + 1) (fl.take (i * 3) ++ [c0, c1, c2] ++ fl.drop (i * 3))) := hid ⟨by simp; omega, .inr ⟨g, cap, S2, rfl, hbg, setRow_heap _ _ cur S2 _ _ hg, hroom, hcm, hS2s, hS2t⟩⟩
  have HCA := hid hcp1
  have HCB := hid hcp2
  have hov1 := hov w rfl
  have k0 : ¬ ((i : Int) = (n : Int)) := by omega
  have k1 : (i : Int) ≤ (n : Int) := by omega
  have k2 : ¬ ((cap : Int) < (n : Int) + 1) := by omega
  have k3 : (n : Int) + 1 ≤ (cap : Int) := by omega
  have k5 : (cap : Int) ≤ 9223372036854775807 := by unfold maxLen at hcm; omega
  have k6 : ¬ (cap = i) := by omega
  have k7 : ¬ (cap = i + 1) := by omega
  have hw1 : IntKind.i64.wrap ((i : Int) + 1) = (i : Int) + 1 := by rw [IntKind.wrap_i64]; omega
  have hw2 : IntKind.i64.wrap ((n : Int) + 1) = (n : Int) + 1 := by rw [IntKind.wrap_i64]; omega
  have hb1 : (0 : Int) ≤ (i : Int) + 1 := by omega
  have htn : ((i : Int) + 1).toNat = i + 1 := by omega
  have htm : ((n : Int) + 1).toNat = n + 1 := by omega
  have hb4 : (i : Int) + 1 ≤ (n : Int) + 1 := by omega
  have hb5 : (i : Int) ≤ (n : Int) + 1 := by omega
  clear hov hcp1 hcp2 hsz hS1 hS2 hS1s hS2s hS2t hfl hfi hci hcm hcs htk hroom h1 h1f hv hg
  go_enter Tryz.func115, Tryz.ntmps115
  have hE1 : (w.drew).heap = w.heap := rfl
  have hE2 : (w.drew.setRow g S1).heap = (w.setRow g S1).heap := rfl
  go_wp2_with (simp only [hov1])
  go_region_law (refine step_copy_ran rfl _ _ 32 rfl (.slice (some ⟨g, (i + 1) * 3, none⟩) (n + 1 - (i + 1)) (cap - (i + 1))) (.slice (some ⟨g, i * 3, none⟩) (n + 1 - i) (cap - i)) (by simp [Act.eval, Act.put]) (by simp [Act.eval, Act.put]) (HCA.out _ hE1 3 (cap - (i + 1)) (cap - i)) ?_)
  go_wp2
  rw [HCB.out _ hE2 _ _]
  go_wp2
  go_ret
  refine ⟨S2, rfl, ?_, ?_⟩
  · exact setRow_setRow _ _ _ _
  · rw [setRow_setRow]; exact HFIN.out
theorem insertT (w : World) (base : Nat) (v : Value) (n : Nat) (fl : List Value) (h : w.ownsRow base 29 3 v n fl) (i : Nat) (hi : i ≤ n) (vb : Nat) (hvb : v.ownBlock ≠ some vb) (c0 c1 c2 : Value) (hv : Blk w vb 29 #[c0, c1, c2]) (h1 : ∀ u ∈ [c0, c1, c2], u.oneCell' = true) (h1f : ∀ u ∈ fl, u.oneCell' = true) (hb : base ≤ w.heap.size) (hn : n ≤ 4000000) : Calls Tryz.prog 115 #[v, .int .i64 (i : Int), .slice (some ⟨vb, 0, none⟩) 1 1] w fun e w' => ∃ a c, e = .returned (.slice a (n + 1) c) ∧ w'.ownsRow base 29 3 (.slice a (n + 1) c) (n + 1) (fl.take (i * 3) ++ [c0, c1, c2] ++ fl.drop (i * 3)) ∧ Grow w w' v (.slice a (n + 1) c) := by
  by_cases hin : i = n
  · subst hin
    have e1 : fl.take (i * 3) = fl := List.take_of_length_le (by rw [h.1]; exact Nat.le_refl _)
    have e2 : fl.drop (i * 3) = [] := List.drop_of_length_le (by rw [h.1]; exact Nat.le_refl _)
    rw [e1, e2, List.append_nil]
    exact insertEnd w base v i fl h vb c0 c1 c2 hv h1 hb hn
  · rcases h.2 with ⟨rfl, h0⟩ | ⟨g, cap, cur, rfl, hbg, hg, hnc, hcm, hcs, htk⟩
    · omega
    · by_cases hroom : n + 1 ≤ cap
      · refine (insertShift w base g n cap i fl cur hg hbg hcm hcs htk hroom (by omega) vb (fun e => hvb (by rw [e]; rfl)) c0 c1 c2 hv h1 h1f hn).mono ?_
        rintro e w' ⟨S, rfl, rfl, ho⟩
        refine ⟨_, cap, rfl, ho, rfl, rfl, rfl, Nat.le_of_eq (setRow_size _ _ _).symm, fun k hk hkg => ?_, .inl rfl⟩
        exact setRow_other _ _ _ _ (fun e => hkg (by rw [e]; rfl))
      · have hcn : cap = n := by omega
        subst hcn
        have hc : cur = fl.toArray := by
          rw [← htk, List.take_of_length_le (by simp [hcs])]
        rw [hc] at hg
        refine (insertGrow w base g cap i fl hg h.1 (by omega) vb c0 c1 c2 hv h1 h1f hb hn).mono ?_
        rintro e w' ⟨a, c, rfl, ho, hbl, rfl⟩
        refine ⟨_, c, rfl, ho, hbl.os, hbl.tape, hbl.output, hbl.size, fun k hk _ => hbl.block k hk, .inr fun k hk => ?_⟩
        simp [Value.ownBlock] at hk
        omega
end Go.Proofs.YtgephggcgopfgaaGreatDoor
