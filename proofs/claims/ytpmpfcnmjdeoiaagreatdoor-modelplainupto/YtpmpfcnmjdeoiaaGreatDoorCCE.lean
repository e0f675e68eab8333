/-
  The document's Clear.
  ModelPlain, walked.
  The variables of Go's library that the rows list: a world that lays them; the one that is named alone.
-/
import Derived.Test.YtpmpfcnmjdeoiaaGreatDoorCCC
import Derived.Test.YtpmpfcnmjdeoiaaGreatDoorCBL
import Derived.Test.YtpmpfcnmjdeoiaaGreatDoorCAB
import Derived.Test.YtpmpfcnmjdeoiaaGreatDoorCw8WP
import Derived.Test.YtpmpfcnmjdeoiaaGreatDoorRows
import Derived.Stop.LaidErr
import Derived.Deep.DeepHandedRow
import Derived.Deep.DeepWitnessRowRef
import Derived.LaidLaws
namespace Go.Proofs.YtpmpfcnmjdeoiaaGreatDoor
open Go.RowKit
set_option maxRecDepth 1000000
set_option linter.unusedVariables false
set_option linter.unusedSimpArgs false
set_option maxHeartbeats 4000000
theorem fieldRun1 (s u : Value) (W : World) (hs : u.cells = #[u]) : (Instr.field 35 (.agg #[s, u]) 1).run Tryz.prog W = .ok u W := by
  simp [Instr.field, part, asAgg, go_sem]
theorem clearD (d : Nat) (w : World) (Z : Nat → Prop) (cs : List Value) (m : CM) (h : MsgE w Z (d + 1) cs m) (n : Int) : Calls Tryz.prog 32 #[.agg cs.toArray, .int .i64 n] w (NewE (FmM (d + 1)) w (CM.mk (m.fs.filter (notN n)) m.us)) := by
  have HCM := hid fun W (hW : Below w.heap.size w W) => copyD (d + 1) W Z cs m (h.kept hW)
  obtain ⟨ka, kc, va, vc, rfl, g, q, l1, l2⟩ := msg_open (MsgE.old (d + 1) _ _ h)
  have m1 : (m.fs.length : Int) ≤ 9223372036854775807 := by omega
  have G := hid g
  have HCC := hid (copyFieldD d (copyD d))
  clear h g q
  go_enter Tryz.func32, Tryz.ntmps32
  go_wp2_with fail
  refine (HCM.out _ (by exact blBy)).mono ?_
  rintro e w1 ⟨ds, rfl, hn, hbx⟩
  obtain ⟨fa, fc, ua, uc, rfl, -, gU, -⟩ := msg_open hn
  have BM0 : Hid (Blk w1 (w.heap.size) 35 #[.slice ka m.fs.length kc, .slice va m.us.length vc]) := hid (((Blk.new _ _ _).kept (below_alloc _)).kept hbx)
  have BR0 : Hid (Blk w1 (w.heap.size + 1) 35 #[.slice none 0 0, .slice none 0 0]) := hid ((Blk.newAt (by simp)).kept hbx)
  have HB0 : Hid (Below w.heap.size w w1) := hid (bl_then (by exact blBy) hbx)
  have HU0 : Hid (EnsR w1 (fun b => w.heap.size + 2 ≤ b ∧ b < w1.heap.size) (.slice ua m.us.length uc) m.us) := hid (EnsR.go (EnsR.old gU) (Keep.refl (fun _ => True) w1) (fun _ _ => trivial) (fun b hz => ⟨by have := hz.1; simpa using this, hz.2⟩))
  have HP0 : Hid (w.heap.size + 2 ≤ w1.heap.size) := hid (by have := hbx.size; simpa using this)
  clear hbx hn gU HCM
  have HFD := fieldRun1 (.slice fa m.fs.length fc) (.slice ua m.us.length uc) w1 rfl
  go_wp2
  generalize hpo : w1.heap.size = po at *
  go_loopw [6] (fun s6 wr => ∃ (j k : Nat) (oa : Option Addr) (oc : Nat), s6 = .int .i64 j ∧ j ≤ m.fs.length ∧ Hid (((m.fs.take j).filter (notN n)).length = k) ∧ Hid (Blk wr (w.heap.size) 35 #[.slice ka m.fs.length kc, .slice va m.us.length vc]) ∧ Hid (Blk wr (w.heap.size + 1) 35 #[.slice none 0 0, .slice none 0 0]) ∧ Hid (Blk wr (po) 35 #[.slice oa k oc, .slice ua m.us.length uc]) ∧ Hid (EnsR wr (fun b => w.heap.size + 2 ≤ b ∧ b < po) (.slice ua m.us.length uc) m.us) ∧ Hid (OwnM wr (po + 1) 29 3 (FmF d) (.slice oa k oc) ((m.fs.take j).filter (notN n))) ∧ Hid (Below w.heap.size w wr) ∧ Hid (po + 1 ≤ wr.heap.size)) (fun s6 wr => m.fs.length - numAt wr s6)
  case atStart => exact ⟨0, 0, none, 0, rfl, by omega, hid rfl, hid (BM0.out.kept (below_alloc _)), hid (BR0.out.kept (below_alloc _)), hid (Blk.newAt hpo.symm), hid (HU0.out.kept (below_alloc _)), hid (OwnM.nil _ _ _ _ _), hid (by have := HB0.out; exact blBy), hid (by simp; omega)⟩
  case round =>
    clear BM0 BR0 HB0 HU0
    obtain ⟨j, k, oa, oc, rfl, hj, HLN, BM, BR, BO, HU, HO, hb, HS⟩ := hrel
    have hP := HP0.out
    have xm := BM.out.cellF
    have zm := BM.out.lt
    have xo := BO.out.cellF
    have yo := BO.out.frz
    have zo := BO.out.lt
    by_cases hlt : j < m.fs.length
    · have k2 : (j : Int) < (m.fs.length : Int) := by omega
      obtain ⟨b1, o1, pa, pc, qa, qc, rfl, hz1, hb1, c0, c1, c2, he⟩ := fls_at (G.out.kept hb.out) hlt
      have HE := hid he
      have HTK : Hid ((m.fs.take (j + 1)).filter (notN n) = (m.fs.take j).filter (notN n) ++ (if notN n m.fs[j] = true then [m.fs[j]] else [])) := hid (by rw [List.take_succ_eq_append_getElem hlt, List.filter_append]; simp only [List.filter_cons, List.filter_nil])
      have HLB : Hid (k ≤ 4000000) := hid (by rw [← HLN.out]; exact fl_len l1 j)
      generalize m.fs[j] = x at *
      have hbl := hz1.2
      clear he hz1
      by_cases hq : x.num = n
      · have k4 : (x.num != n) = false := by simp [hq]
        have hqn : notN n x = false := by simp [notN, hq]
        rw [hqn, if_neg (by simp), List.append_nil] at HTK
        subst hq
        go_wp2
        exact ⟨⟨j + 1, k, oa, oc, by simp, by omega, hid (by rw [HTK.out]; exact HLN.out), BM, BR, BO, HU, hid (by rw [HTK.out]; exact HO.out), hb, HS⟩, by simp [numAt]; omega⟩
      · have k4 : (x.num != n) = true := by simp [hq]
        have hqn : notN n x = true := by simp [notN, hq]
        rw [hqn, if_pos rfl] at HTK
        have HSK : Hid (∀ W, Keep (· < po) wr W → (fun W => (∀ k, W.cell? ⟨w.heap.size, k, none⟩ = #[.slice (some ⟨b1, o1, none⟩) m.fs.length kc, .slice va m.us.length vc][k]?) ∧ W.cell? ⟨b1, o1 + j * 3, none⟩ = some (.int .i64 x.num) ∧ W.cell? ⟨b1, o1 + j * 3 + 1, none⟩ = some (.slice pa x.ks.length pc) ∧ W.cell? ⟨b1, o1 + j * 3 + 2, none⟩ = some (.slice qa x.vs.length qc)) W) := hid fun W hk => ⟨(BM.out.keep hk (show _ < _ by omega)).cellF, cell_kp c0 hk (show _ < _ by omega), cell_kp c1 hk (show _ < _ by omega), cell_kp c2 hk (show _ < _ by omega)⟩
        clear hqn
        go_upto_region 6 with fail
        refine wp_region_held_drew (S := (fun W => (∀ k, W.cell? ⟨w.heap.size, k, none⟩ = #[.slice (some ⟨b1, o1, none⟩) m.fs.length kc, .slice va m.us.length vc][k]?) ∧ W.cell? ⟨b1, o1 + j * 3, none⟩ = some (.int .i64 x.num) ∧ W.cell? ⟨b1, o1 + j * 3 + 1, none⟩ = some (.slice pa x.ks.length pc) ∧ W.cell? ⟨b1, o1 + j * 3 + 2, none⟩ = some (.slice qa x.vs.length qc))) (by kernel_rfl) ?_ (fun hHeld => ?_)
        · exact HSK.out _ (Keep.ofBelow (below_drew1 _))
        refine wpAnyH_take (i := 0) (v := ?_) rfl (by kernel_rfl) (by kernel_rfl) (by kernel_rfl) (fun _ _ _ h => h) (Or.inl ⟨by rfl, ?_⟩) (by assumption) ?_
        rotate_left
        · (intro w hSw; (try dsimp only at hSw); go_simp; (try with_reducible rfl))
        try simp only [Act.put, List.getElem_toArray, List.getElem_cons_succ, List.getElem_cons_zero, List.setIfInBounds_toArray, List.set_cons_zero, List.set_cons_succ]
        refine wpAnyH_take (i := 2) (v := ?_) rfl (by kernel_rfl) (by kernel_rfl) (by kernel_rfl) (fun _ _ _ h => h) (Or.inl ⟨by rfl, ?_⟩) (by assumption) ?_
        rotate_left
        · (intro w hSw; (try dsimp only at hSw); go_simp; (try with_reducible rfl))
        try simp only [Act.put, List.getElem_toArray, List.getElem_cons_succ, List.getElem_cons_zero, List.setIfInBounds_toArray, List.set_cons_zero, List.set_cons_succ]
        refine wpAnyH_take (i := 3) (v := ?_) rfl (by kernel_rfl) (by kernel_rfl) (by kernel_rfl) (fun _ _ _ h => h) (Or.inl ⟨by rfl, ?_⟩) (by assumption) ?_
        rotate_left
        · (intro w hSw; (try dsimp only at hSw); go_simp; (try with_reducible rfl))
        try simp only [Act.put, List.getElem_toArray, List.getElem_cons_succ, List.getElem_cons_zero, List.setIfInBounds_toArray, List.set_cons_zero, List.set_cons_succ]
        refine wpAnyH_take (i := 4) (v := ?_) rfl (by kernel_rfl) (by kernel_rfl) (by kernel_rfl) (fun _ _ _ h => h) (Or.inl ⟨by rfl, ?_⟩) (by assumption) ?_
        rotate_left
        · (intro w hSw; (try dsimp only at hSw); go_simp; (try with_reducible rfl))
        try simp only [Act.put, List.getElem_toArray, List.getElem_cons_succ, List.getElem_cons_zero, List.setIfInBounds_toArray, List.set_cons_zero, List.set_cons_succ]
        refine wpAnyH_take (i := 5) (v := ?_) rfl (by kernel_rfl) (by kernel_rfl) (by kernel_rfl) (fun _ _ _ h => h) (Or.inl ⟨by rfl, ?_⟩) (by assumption) ?_
        rotate_left
        · (intro w hSw; (try dsimp only at hSw); go_simp; (try with_reducible rfl))
        try simp only [Act.put, List.getElem_toArray, List.getElem_cons_succ, List.getElem_cons_zero, List.setIfInBounds_toArray, List.set_cons_zero, List.set_cons_succ]
        refine wpAnyH_take (i := 6) (v := ?_) rfl (by kernel_rfl) (by kernel_rfl) (by kernel_rfl) (fun _ _ _ h => h) (Or.inl ⟨by rfl, ?_⟩) (by assumption) ?_
        rotate_left
        · (intro w hSw; (try dsimp only at hSw); go_simp; (try with_reducible rfl))
        try simp only [Act.put, List.getElem_toArray, List.getElem_cons_succ, List.getElem_cons_zero, List.setIfInBounds_toArray, List.set_cons_zero, List.set_cons_succ]
        refine wpAnyH_ready (rs := [1, 7]) (by kernel_rfl) (by simp) ?_
        refine AllReadyH.cons rfl (fun K hK => ?_) ?_
        · go_simp
          refine hK.out _ _ ?_ (fun hHeld => ?_)
          · first | assumption | exact HSK.out _ (Keep.ofBelow (below_drew1 _))
          clear hK K
          try simp only [Act.put, List.getElem_toArray, List.getElem_cons_succ, List.getElem_cons_zero, List.setIfInBounds_toArray, List.set_cons_zero, List.set_cons_succ]
          refine wpAnyH_ready (rs := [7]) (by kernel_rfl) (by simp) ?_
          refine AllReadyH.cons rfl (fun K hK => ?_) ?_
          · go_simp
            go_wp2_with (go_at_call 68; refine (HCC.out _ (fun b => Z b ∧ b < w.heap.size) _ x (HE.out.kept (below_drew1 _))).mono ?_; rintro e u1 ⟨ds, rfl, hn, hbu⟩; have HX1 : Hid (Below wr.heap.size wr u1) := hid (bl_then (below_drew1 _) hbu); have K1 : Hid (Keep (· < po) wr u1) := hid (Keep.ofBelow HX1.out); have HZ := hid (zof_new (famF d) HO.out (by simp) HS.out hn); have HO1 := hid (HO.out.kept (famF d) HX1.out); obtain ⟨ka2, kc2, va2, vc2, rfl, -⟩ := fld_open HZ.out; have BO1 := hid (BO.out.kept HX1.out); have xo1 := BO1.out.cellF; have yo1 := BO1.out.frz; have zo1 := BO1.out.lt; have hs1 := HX1.out.size; clear hbu hn)
            refine hK.out _ _ ?_ (fun hHeld => ?_)
            · first | assumption | exact HSK.out _ (K1.out)
            clear hK K
            try simp only [Act.put, List.getElem_toArray, List.getElem_cons_succ, List.getElem_cons_zero, List.setIfInBounds_toArray, List.set_cons_zero, List.set_cons_succ]
            obtain ⟨la, lc, x3, HRUN, HO2, HG⟩ := OwnM.push (famF d) 29 32 56 (.agg #[.int .i64 0, .slice none 0 0, .slice none 0 0]) Tryz.underlying32 Tryz.infoF rfl (by decide) (by decide) HO1.out HZ.out (by have := HS.out; omega) (by rw [HLN.out]; exact HLB.out)
            rw [HLN.out] at HRUN HO2 HG
            refine wpAnyH_ready (rs := [8]) (by kernel_rfl) (by simp) ?_
            refine AllReadyH.cons rfl (fun K hK => ?_) ?_
            · go_simp
              refine hK.out _ _ ?_ (fun hHeld => ?_)
              · first | assumption | exact HSK.out _ (kpA K1.out _)
              clear hK K
              try simp only [Act.put, List.getElem_toArray, List.getElem_cons_succ, List.getElem_cons_zero, List.setIfInBounds_toArray, List.set_cons_zero, List.set_cons_succ]
              refine wpAnyH_ready (rs := [9]) (by kernel_rfl) (by simp) ?_
              refine AllReadyH.cons rfl (fun K hK => ?_) ?_
              · refine step_append_ran rfl _ _ 32 32 rfl rfl _ _ (.slice la (k + 1) lc) x3 rfl rfl HRUN.out ?_
                have KG : Hid (Keep (· < po + 1) u1 x3) := hid (Keep.ofGrow HG.out (fun q (hq : q < po + 1) e => by have := (HO1.out.own e).1; omega))
                have K3 : Hid (Keep (· < po) wr x3) := hid (K1.out.trans (KG.out.weak (fun q (hq : q < po) => by show q < po + 1; omega)))
                have BO3 : Hid (Blk x3 po 35 #[.slice oa k oc, .slice ua m.us.length uc]) := hid (BO1.out.keep KG.out (by show _ < _; omega))
                have xo3 := BO3.out.cellF
                have yo3 := BO3.out.frz
                have zo3 := BO3.out.lt
                have hs3 := HG.out.size
                refine hK.out _ _ ?_ (fun hHeld => ?_)
                · first | assumption | exact HSK.out _ (K3.out)
                clear hK K
                try simp only [Act.put, List.getElem_toArray, List.getElem_cons_succ, List.getElem_cons_zero, List.setIfInBounds_toArray, List.set_cons_zero, List.set_cons_succ]
                refine wpAnyH_take (i := 10) (v := ?_) rfl (by kernel_rfl) (by kernel_rfl) (by kernel_rfl) (fun _ _ _ h => h) (Or.inl ⟨by rfl, ?_⟩) (by assumption) ?_
                rotate_left
                · (intro w hSw; (try dsimp only at hSw); go_simp; (try with_reducible rfl))
                try simp only [Act.put, List.getElem_toArray, List.getElem_cons_succ, List.getElem_cons_zero, List.setIfInBounds_toArray, List.set_cons_zero, List.set_cons_succ]
                refine wpAnyH_ready (rs := [11]) (by kernel_rfl) (by simp) ?_
                refine AllReadyH.cons rfl (fun K hK => ?_) ?_
                · go_simp
                  refine hK.out _ _ ?_ (fun hHeld => ?_)
                  · first | assumption | exact HSK.out _ (kpS K3.out (by simp))
                  clear hK K
                  try simp only [Act.put, List.getElem_toArray, List.getElem_cons_succ, List.getElem_cons_zero, List.setIfInBounds_toArray, List.set_cons_zero, List.set_cons_succ]
                  refine wpAnyH_done (by kernel_rfl) ?_ _
                  go_wp2
                  exact ⟨⟨j + 1, k + 1, la, lc, by simp, by omega, hid (by rw [HTK.out, List.length_append, HLN.out]; rfl), hid ((BM.out.keep K3.out (show _ < _ by omega)).other (by first | (simp; done) | (simp; omega) | omega) _), hid ((BR.out.keep K3.out (show _ < _ by omega)).other (by first | (simp; done) | (simp; omega) | omega) _), hid ((BO3.out.set 0 _).is (by simp)), hid (EnsR.go HU.out (f := fun b => w.heap.size + 2 ≤ b ∧ b < po) ((K3.out.weak (fun q hq => hq.2)).trans (Keep.setCell _ _ _ (by first | (simp; done) | (simp; omega) | omega))) (fun _ h => h) (fun _ h => h)), hid (by rw [HTK.out]; exact HO2.out.keepB (famF d) (Keep.setCell _ _ _ (by simp))), hid (Below.trans hb.out (Below.trans (HX1.out.mono hb.out.size) (by have h3 := KG.out.below (B := w.heap.size) (by have := hb.out.size; omega) (fun k hk => by show k < _; omega); exact h3.setCell (by simp; omega) _))), hid (by have := HS.out; simp; omega)⟩, by simp [numAt]; omega⟩
                exact AllReadyH.nil
              exact AllReadyH.nil
            exact AllReadyH.nil
          exact AllReadyH.nil
        refine AllReadyH.cons rfl (fun K hK => ?_) ?_
        · go_simp
          go_wp2_with (go_at_call 68; refine (HCC.out _ (fun b => Z b ∧ b < w.heap.size) _ x (HE.out.kept (below_drew1 _))).mono ?_; rintro e u1 ⟨ds, rfl, hn, hbu⟩; have HX1 : Hid (Below wr.heap.size wr u1) := hid (bl_then (below_drew1 _) hbu); have K1 : Hid (Keep (· < po) wr u1) := hid (Keep.ofBelow HX1.out); have HZ := hid (zof_new (famF d) HO.out (by simp) HS.out hn); have HO1 := hid (HO.out.kept (famF d) HX1.out); obtain ⟨ka2, kc2, va2, vc2, rfl, -⟩ := fld_open HZ.out; have BO1 := hid (BO.out.kept HX1.out); have xo1 := BO1.out.cellF; have yo1 := BO1.out.frz; have zo1 := BO1.out.lt; have hs1 := HX1.out.size; clear hbu hn)
          refine hK.out _ _ ?_ (fun hHeld => ?_)
          · first | assumption | exact HSK.out _ (K1.out)
          clear hK K
          try simp only [Act.put, List.getElem_toArray, List.getElem_cons_succ, List.getElem_cons_zero, List.setIfInBounds_toArray, List.set_cons_zero, List.set_cons_succ]
          obtain ⟨la, lc, x3, HRUN, HO2, HG⟩ := OwnM.push (famF d) 29 32 56 (.agg #[.int .i64 0, .slice none 0 0, .slice none 0 0]) Tryz.underlying32 Tryz.infoF rfl (by decide) (by decide) HO1.out HZ.out (by have := HS.out; omega) (by rw [HLN.out]; exact HLB.out)
          rw [HLN.out] at HRUN HO2 HG
          refine wpAnyH_ready (rs := [1, 8]) (by kernel_rfl) (by simp) ?_
          refine AllReadyH.cons rfl (fun K hK => ?_) ?_
          · go_simp
            refine hK.out _ _ ?_ (fun hHeld => ?_)
            · first | assumption | exact HSK.out _ (K1.out)
            clear hK K
            try simp only [Act.put, List.getElem_toArray, List.getElem_cons_succ, List.getElem_cons_zero, List.setIfInBounds_toArray, List.set_cons_zero, List.set_cons_succ]
            refine wpAnyH_ready (rs := [8]) (by kernel_rfl) (by simp) ?_
            refine AllReadyH.cons rfl (fun K hK => ?_) ?_
            · go_simp
              refine hK.out _ _ ?_ (fun hHeld => ?_)
              · first | assumption | exact HSK.out _ (kpA K1.out _)
              clear hK K
              try simp only [Act.put, List.getElem_toArray, List.getElem_cons_succ, List.getElem_cons_zero, List.setIfInBounds_toArray, List.set_cons_zero, List.set_cons_succ]
              refine wpAnyH_ready (rs := [9]) (by kernel_rfl) (by simp) ?_
              refine AllReadyH.cons rfl (fun K hK => ?_) ?_
              · refine step_append_ran rfl _ _ 32 32 rfl rfl _ _ (.slice la (k + 1) lc) x3 rfl rfl HRUN.out ?_
                have KG : Hid (Keep (· < po + 1) u1 x3) := hid (Keep.ofGrow HG.out (fun q (hq : q < po + 1) e => by have := (HO1.out.own e).1; omega))
                have K3 : Hid (Keep (· < po) wr x3) := hid (K1.out.trans (KG.out.weak (fun q (hq : q < po) => by show q < po + 1; omega)))
                have BO3 : Hid (Blk x3 po 35 #[.slice oa k oc, .slice ua m.us.length uc]) := hid (BO1.out.keep KG.out (by show _ < _; omega))
                have xo3 := BO3.out.cellF
                have yo3 := BO3.out.frz
                have zo3 := BO3.out.lt
                have hs3 := HG.out.size
                refine hK.out _ _ ?_ (fun hHeld => ?_)
                · first | assumption | exact HSK.out _ (K3.out)
                clear hK K
                try simp only [Act.put, List.getElem_toArray, List.getElem_cons_succ, List.getElem_cons_zero, List.setIfInBounds_toArray, List.set_cons_zero, List.set_cons_succ]
                refine wpAnyH_take (i := 10) (v := ?_) rfl (by kernel_rfl) (by kernel_rfl) (by kernel_rfl) (fun _ _ _ h => h) (Or.inl ⟨by rfl, ?_⟩) (by assumption) ?_
                rotate_left
                · (intro w hSw; (try dsimp only at hSw); go_simp; (try with_reducible rfl))
                try simp only [Act.put, List.getElem_toArray, List.getElem_cons_succ, List.getElem_cons_zero, List.setIfInBounds_toArray, List.set_cons_zero, List.set_cons_succ]
                refine wpAnyH_ready (rs := [11]) (by kernel_rfl) (by simp) ?_
                refine AllReadyH.cons rfl (fun K hK => ?_) ?_
                · go_simp
                  refine hK.out _ _ ?_ (fun hHeld => ?_)
                  · first | assumption | exact HSK.out _ (kpS K3.out (by simp))
                  clear hK K
                  try simp only [Act.put, List.getElem_toArray, List.getElem_cons_succ, List.getElem_cons_zero, List.setIfInBounds_toArray, List.set_cons_zero, List.set_cons_succ]
                  refine wpAnyH_done (by kernel_rfl) ?_ _
                  go_wp2
                  exact ⟨⟨j + 1, k + 1, la, lc, by simp, by omega, hid (by rw [HTK.out, List.length_append, HLN.out]; rfl), hid ((BM.out.keep K3.out (show _ < _ by omega)).other (by first | (simp; done) | (simp; omega) | omega) _), hid ((BR.out.keep K3.out (show _ < _ by omega)).other (by first | (simp; done) | (simp; omega) | omega) _), hid ((BO3.out.set 0 _).is (by simp)), hid (EnsR.go HU.out (f := fun b => w.heap.size + 2 ≤ b ∧ b < po) ((K3.out.weak (fun q hq => hq.2)).trans (Keep.setCell _ _ _ (by first | (simp; done) | (simp; omega) | omega))) (fun _ h => h) (fun _ h => h)), hid (by rw [HTK.out]; exact HO2.out.keepB (famF d) (Keep.setCell _ _ _ (by simp))), hid (Below.trans hb.out (Below.trans (HX1.out.mono hb.out.size) (by have h3 := KG.out.below (B := w.heap.size) (by have := hb.out.size; omega) (fun k hk => by show k < _; omega); exact h3.setCell (by simp; omega) _))), hid (by have := HS.out; simp; omega)⟩, by simp [numAt]; omega⟩
                exact AllReadyH.nil
              exact AllReadyH.nil
            exact AllReadyH.nil
          refine AllReadyH.cons rfl (fun K hK => ?_) ?_
          · go_simp
            refine hK.out _ _ ?_ (fun hHeld => ?_)
            · first | assumption | exact HSK.out _ (kpA K1.out _)
            clear hK K
            try simp only [Act.put, List.getElem_toArray, List.getElem_cons_succ, List.getElem_cons_zero, List.setIfInBounds_toArray, List.set_cons_zero, List.set_cons_succ]
            refine wpAnyH_ready (rs := [1]) (by kernel_rfl) (by simp) ?_
            refine AllReadyH.cons rfl (fun K hK => ?_) ?_
            · go_simp
              refine hK.out _ _ ?_ (fun hHeld => ?_)
              · first | assumption | exact HSK.out _ (kpA K1.out _)
              clear hK K
              try simp only [Act.put, List.getElem_toArray, List.getElem_cons_succ, List.getElem_cons_zero, List.setIfInBounds_toArray, List.set_cons_zero, List.set_cons_succ]
              refine wpAnyH_ready (rs := [9]) (by kernel_rfl) (by simp) ?_
              refine AllReadyH.cons rfl (fun K hK => ?_) ?_
              · refine step_append_ran rfl _ _ 32 32 rfl rfl _ _ (.slice la (k + 1) lc) x3 rfl rfl HRUN.out ?_
                have KG : Hid (Keep (· < po + 1) u1 x3) := hid (Keep.ofGrow HG.out (fun q (hq : q < po + 1) e => by have := (HO1.out.own e).1; omega))
                have K3 : Hid (Keep (· < po) wr x3) := hid (K1.out.trans (KG.out.weak (fun q (hq : q < po) => by show q < po + 1; omega)))
                have BO3 : Hid (Blk x3 po 35 #[.slice oa k oc, .slice ua m.us.length uc]) := hid (BO1.out.keep KG.out (by show _ < _; omega))
                have xo3 := BO3.out.cellF
                have yo3 := BO3.out.frz
                have zo3 := BO3.out.lt
                have hs3 := HG.out.size
                refine hK.out _ _ ?_ (fun hHeld => ?_)
                · first | assumption | exact HSK.out _ (K3.out)
                clear hK K
                try simp only [Act.put, List.getElem_toArray, List.getElem_cons_succ, List.getElem_cons_zero, List.setIfInBounds_toArray, List.set_cons_zero, List.set_cons_succ]
                refine wpAnyH_take (i := 10) (v := ?_) rfl (by kernel_rfl) (by kernel_rfl) (by kernel_rfl) (fun _ _ _ h => h) (Or.inl ⟨by rfl, ?_⟩) (by assumption) ?_
                rotate_left
                · (intro w hSw; (try dsimp only at hSw); go_simp; (try with_reducible rfl))
                try simp only [Act.put, List.getElem_toArray, List.getElem_cons_succ, List.getElem_cons_zero, List.setIfInBounds_toArray, List.set_cons_zero, List.set_cons_succ]
                refine wpAnyH_ready (rs := [11]) (by kernel_rfl) (by simp) ?_
                refine AllReadyH.cons rfl (fun K hK => ?_) ?_
                · go_simp
                  refine hK.out _ _ ?_ (fun hHeld => ?_)
                  · first | assumption | exact HSK.out _ (kpS K3.out (by simp))
                  clear hK K
                  try simp only [Act.put, List.getElem_toArray, List.getElem_cons_succ, List.getElem_cons_zero, List.setIfInBounds_toArray, List.set_cons_zero, List.set_cons_succ]
                  refine wpAnyH_done (by kernel_rfl) ?_ _
                  go_wp2
                  exact ⟨⟨j + 1, k + 1, la, lc, by simp, by omega, hid (by rw [HTK.out, List.length_append, HLN.out]; rfl), hid ((BM.out.keep K3.out (show _ < _ by omega)).other (by first | (simp; done) | (simp; omega) | omega) _), hid ((BR.out.keep K3.out (show _ < _ by omega)).other (by first | (simp; done) | (simp; omega) | omega) _), hid ((BO3.out.set 0 _).is (by simp)), hid (EnsR.go HU.out (f := fun b => w.heap.size + 2 ≤ b ∧ b < po) ((K3.out.weak (fun q hq => hq.2)).trans (Keep.setCell _ _ _ (by first | (simp; done) | (simp; omega) | omega))) (fun _ h => h) (fun _ h => h)), hid (by rw [HTK.out]; exact HO2.out.keepB (famF d) (Keep.setCell _ _ _ (by simp))), hid (Below.trans hb.out (Below.trans (HX1.out.mono hb.out.size) (by have h3 := KG.out.below (B := w.heap.size) (by have := hb.out.size; omega) (fun k hk => by show k < _; omega); exact h3.setCell (by simp; omega) _))), hid (by have := HS.out; simp; omega)⟩, by simp [numAt]; omega⟩
                exact AllReadyH.nil
              exact AllReadyH.nil
            exact AllReadyH.nil
          exact AllReadyH.nil
        exact AllReadyH.nil
    · have k2 : ¬ (j : Int) < (m.fs.length : Int) := by omega
      have ej : j = m.fs.length := by omega
      have e1 : m.fs.take j = m.fs := List.take_of_length_le (by omega)
      rw [e1] at HO HLN
      have HRW := hid (HO.out.row (famF d) (fl_le l1))
      have xr := BR.out.cellF
      have yr := BR.out.frz
      have zr := BR.out.lt
      have HK := hid HLN.out
      clear e1 HO hlt hj ej
      go_wp2
      exact bodyPost_ret (v := .agg #[.slice oa k oc, .slice ua m.us.length uc]) (by simp [results, Tryz.results32, go_sem, xr, yr, zr]) rfl (NewE.mk [.slice oa k oc, .slice ua m.us.length uc] ⟨_, _, rfl, FlsR.go HRW.out (f := (w.heap.size + 2 ≤ ·)) (by with_reducible repeat (first | exact Keep.refl _ _ | refine kpS ?_ (by first | (simp; done) | (simp; omega) | omega) | refine kpA ?_ _ | refine kpD ?_ | refine kpN ?_ _)) (fun b hb => by omega) (fun k hk => by omega), EnsR.go HU.out (f := (w.heap.size + 2 ≤ ·)) (by with_reducible repeat (first | exact Keep.refl _ _ | refine kpS ?_ (by first | (simp; done) | (simp; omega) | omega) | refine kpA ?_ _ | refine kpD ?_ | refine kpN ?_ _)) (fun b hb => hb.1) (fun k hk => by have := hk.1; omega)⟩ (by have := hb.out; exact blBy))
end Go.Proofs.YtpmpfcnmjdeoiaaGreatDoor
namespace Go.Proofs.YtpmpfcnmjdeoiaaGreatDoor
open Go.RowKit
set_option maxRecDepth 1000000
set_option linter.unusedVariables false
set_option linter.unusedSimpArgs false
set_option maxHeartbeats 4000000
theorem modelPlainW (d : Nat) (hd : d + 1 ≤ 4000000) (w : World) (mx : Int) (hm0 : w.cell? ⟨0, 0, none⟩ = some (.int .i64 mx)) (Z Z2 : Nat → Prop) (cs ds : List Value) (ma mb : CM) (hA : MsgE w Z (d + 1) cs ma) (hB : MsgE w Z2 (d + 1) ds mb) (n : Int) : Calls Tryz.prog 5 #[.agg cs.toArray, .agg ds.toArray, .int .i64 n] w fun e w' => e = .returned (.bool true) ∧ Below w.heap.size w w' := by
  have HM := hid hm0
  have HA := hid hA
  have HB := hid hB
  obtain ⟨a1, c1, a2, c2, rfl, -⟩ := msg_openD hA
  obtain ⟨b1, e1, b2, e2, rfl, -⟩ := msg_openD hB
  clear hA hB hm0
  obtain ⟨bq, hbq⟩ : ∃ b : Bool, b = true ↔ ma = mb := by
    by_cases h : ma = mb
    · exact ⟨true, ⟨fun _ => h, fun _ => rfl⟩⟩
    · exact ⟨false, ⟨fun h2 => (by cases h2), fun h2 => absurd h2 h⟩⟩
  go_enter Tryz.func5, Tryz.ntmps5
  go_wp2_with fail
  refine (getT d _ Z _ ma (HA.out.kept (by exact blBy)) n).mono ?_
  rintro e w1 ⟨fs, rfl, hf, hbx⟩
  have HG := hid hf
  have BA : Hid (Blk w1 w.heap.size 35 #[.slice a1 ma.fs.length c1, .slice a2 ma.us.length c2]) := hid (((Blk.new _ _ _).kept (below_alloc _)).kept hbx)
  have BB : Hid (Blk w1 (w.heap.size + 1) 35 #[.slice b1 mb.fs.length e1, .slice b2 mb.us.length e2]) := hid ((Blk.newAt (by simp)).kept hbx)
  have hb1 : Hid (Below w.heap.size w w1) := hid (bl_then (by exact blBy) hbx)
  have HGD := hid fun W (hW : Below w.heap.size w W) => getDR d W Z _ ma (HA.out.kept hW) n
  unfold GetD at HGD
  generalize ho : ma.fs.find? (isN n) = oo at *
  generalize hff : oo.getD cfZ = ff at *
  obtain ⟨p1, q1, p2, q2, rfl, -⟩ := fld_open hf
  clear hf hbx
  have xa := BA.out.cellF
  have za := BA.out.lt
  go_wp2_with fail
  refine (HGD.out _ (by have := hb1.out; exact blBy)).mono ?_
  rintro e w2 ⟨gs, rfl, hg, hbx⟩
  have HG2 := hid hg
  have hz : Below w1.heap.size w1 w2 := bl_then (by exact blBy) hbx
  have BF : Hid (Blk w2 w1.heap.size 29 #[.int .i64 ff.num, .slice p1 ff.ks.length q1, .slice p2 ff.vs.length q2]) := hid ((Blk.new _ _ _).kept hbx)
  replace BA := hid (BA.out.kept hz)
  replace BB := hid (BB.out.kept hz)
  replace HG := hid (HG.out.kept hz)
  have hb2 : Hid (Below w.heap.size w w2) := hid (below_trans hb1.out hz)
  obtain ⟨r1, s1, r2, s2, rfl, -⟩ := fld_open hg
  clear hg hbx hz xa za HGD
  go_upto_region 3 with fail
  have BX : Hid (Blk (w2.alloc (.cells #[.int .i64 ff.num, .slice r1 ff.ks.length s1, .slice r2 ff.vs.length s2] 29)) w2.heap.size 29 #[.int .i64 ff.num, .slice r1 ff.ks.length s1, .slice r2 ff.vs.length s2]) := hid (Blk.new _ _ _)
  replace BA := hid (BA.out.kept (below_alloc (w := w2) (.cells #[.int .i64 ff.num, .slice r1 ff.ks.length s1, .slice r2 ff.vs.length s2] 29)))
  replace BB := hid (BB.out.kept (below_alloc (w := w2) (.cells #[.int .i64 ff.num, .slice r1 ff.ks.length s1, .slice r2 ff.vs.length s2] 29)))
  replace BF := hid (BF.out.kept (below_alloc (w := w2) (.cells #[.int .i64 ff.num, .slice r1 ff.ks.length s1, .slice r2 ff.vs.length s2] 29)))
  replace HG := hid (HG.out.kept (below_alloc (w := w2) (.cells #[.int .i64 ff.num, .slice r1 ff.ks.length s1, .slice r2 ff.vs.length s2] 29)))
  replace HG2 := hid (HG2.out.kept (below_alloc (w := w2) (.cells #[.int .i64 ff.num, .slice r1 ff.ks.length s1, .slice r2 ff.vs.length s2] 29)))
  have hb3 : Hid (Below w.heap.size w (w2.alloc (.cells #[.int .i64 ff.num, .slice r1 ff.ks.length s1, .slice r2 ff.vs.length s2] 29))) := hid (by have := hb2.out; exact blBy)
  generalize w1.heap.size = pf at *
  generalize hpx : w2.heap.size = px at *
  generalize (w2.alloc (.cells #[.int .i64 ff.num, .slice r1 ff.ks.length s1, .slice r2 ff.vs.length s2] 29)) = w3 at *
  have HSK : Hid (∀ W, Below w3.heap.size w3 W → (fun W => (∀ k, W.cell? ⟨w.heap.size, k, none⟩ = #[.slice a1 ma.fs.length c1, .slice a2 ma.us.length c2][k]?) ∧ (∀ k, W.cell? ⟨w.heap.size + 1, k, none⟩ = #[.slice b1 mb.fs.length e1, .slice b2 mb.us.length e2][k]?) ∧ (∀ k, W.cell? ⟨pf, k, none⟩ = #[.int .i64 ff.num, .slice p1 ff.ks.length q1, .slice p2 ff.vs.length q2][k]?) ∧ (∀ k, W.cell? ⟨px, k, none⟩ = #[.int .i64 ff.num, .slice r1 ff.ks.length s1, .slice r2 ff.vs.length s2][k]?)) W) := hid fun W h => ⟨(BA.out.kept h).cellF, (BB.out.kept h).cellF, (BF.out.kept h).cellF, (BX.out.kept h).cellF⟩
  have HXX : Hid (FmF d w3 AnyZ [.int .i64 ff.num, .slice p1 ff.ks.length q1, .slice p2 ff.vs.length q2] ff) := hid ((famF d).go HG.out (Keep.refl (fun _ => True) _) (fun _ _ => trivial) (fun _ _ => trivial))
  refine wp_region_held_drew (S := (fun W => (∀ k, W.cell? ⟨w.heap.size, k, none⟩ = #[.slice a1 ma.fs.length c1, .slice a2 ma.us.length c2][k]?) ∧ (∀ k, W.cell? ⟨w.heap.size + 1, k, none⟩ = #[.slice b1 mb.fs.length e1, .slice b2 mb.us.length e2][k]?) ∧ (∀ k, W.cell? ⟨pf, k, none⟩ = #[.int .i64 ff.num, .slice p1 ff.ks.length q1, .slice p2 ff.vs.length q2][k]?) ∧ (∀ k, W.cell? ⟨px, k, none⟩ = #[.int .i64 ff.num, .slice r1 ff.ks.length s1, .slice r2 ff.vs.length s2][k]?))) (by kernel_rfl) ?_ (fun hHeld => ?_)
  · exact HSK.out _ (below_drew1 _)
  refine wpAnyH_ready (rs := [0]) (by kernel_rfl) (by simp) ?_
  refine AllReadyH.cons rfl (fun K hK => ?_) AllReadyH.nil
  go_simp
  go_wp2_with (go_at_call 9; refine (awake8 _ mx (cell_below HM.out (below_trans hb3.out (below_drew1 _)))).mono ?_; rintro e u1 ⟨rfl, hbu⟩; have HX1 : Hid (Below w3.heap.size w3 u1) := hid (bl_then (below_drew1 _) hbu); clear hbu)
  refine hK.out _ _ ?_ (fun hHeld => ?_)
  · first | assumption | exact HSK.out _ HX1.out
  clear hK K
  try simp only [Act.put, List.getElem_toArray, List.getElem_cons_succ, List.getElem_cons_zero, List.setIfInBounds_toArray, List.set_cons_zero, List.set_cons_succ]
  refine wpAnyH_take (i := 1) (v := ?_) rfl (by kernel_rfl) (by kernel_rfl) (by kernel_rfl) (fun _ _ _ h => h) (Or.inl ⟨by rfl, ?_⟩) (by assumption) ?_
  rotate_left
  · (intro w hSw; (try dsimp only at hSw); go_simp; (try with_reducible rfl))
  try simp only [Act.put, List.getElem_toArray, List.getElem_cons_succ, List.getElem_cons_zero, List.setIfInBounds_toArray, List.set_cons_zero, List.set_cons_succ]
  refine wpAnyH_take (i := 2) (v := ?_) rfl (by kernel_rfl) (by kernel_rfl) (by kernel_rfl) (fun _ _ _ h => h) (Or.inl ⟨by rfl, ?_⟩) (by assumption) ?_
  rotate_left
  · (intro w hSw; (try dsimp only at hSw); go_simp; (try with_reducible rfl))
  try simp only [Act.put, List.getElem_toArray, List.getElem_cons_succ, List.getElem_cons_zero, List.setIfInBounds_toArray, List.set_cons_zero, List.set_cons_succ]
  refine wpAnyH_take (i := 3) (v := ?_) rfl (by kernel_rfl) (by kernel_rfl) (by kernel_rfl) (fun _ _ _ h => h) (Or.inl ⟨by rfl, ?_⟩) (by assumption) ?_
  rotate_left
  · (intro w hSw; (try dsimp only at hSw); go_simp; (try with_reducible rfl))
  try simp only [Act.put, List.getElem_toArray, List.getElem_cons_succ, List.getElem_cons_zero, List.setIfInBounds_toArray, List.set_cons_zero, List.set_cons_succ]
  refine wpAnyH_take (i := 5) (v := ?_) rfl (by kernel_rfl) (by kernel_rfl) (by kernel_rfl) (fun _ _ _ h => h) (Or.inl ⟨by rfl, ?_⟩) (by assumption) ?_
  rotate_left
  · (intro w hSw; (try dsimp only at hSw); go_simp; (try with_reducible rfl))
  try simp only [Act.put, List.getElem_toArray, List.getElem_cons_succ, List.getElem_cons_zero, List.setIfInBounds_toArray, List.set_cons_zero, List.set_cons_succ]
  refine wpAnyH_take (i := 6) (v := ?_) rfl (by kernel_rfl) (by kernel_rfl) (by kernel_rfl) (fun _ _ _ h => h) (Or.inl ⟨by rfl, ?_⟩) (by assumption) ?_
  rotate_left
  · (intro w hSw; (try dsimp only at hSw); go_simp; (try with_reducible rfl))
  try simp only [Act.put, List.getElem_toArray, List.getElem_cons_succ, List.getElem_cons_zero, List.setIfInBounds_toArray, List.set_cons_zero, List.set_cons_succ]
  refine wpAnyH_ready (rs := [4]) (by kernel_rfl) (by simp) ?_
  refine AllReadyH.cons rfl (fun K hK => ?_) AllReadyH.nil
  go_simp
  go_wp2_with (go_at_call 26; refine (equalT (d + 1) _ Z Z2 _ _ _ _ (HA.out.kept (below_trans hb3.out (HX1.out))) (HB.out.kept (below_trans hb3.out (HX1.out)))).mono ?_; rintro e u2 hEq; obtain ⟨rfl, hbu⟩ := EqR.val hEq bq hbq; clear hEq; have HX2 : Hid (Below w3.heap.size w3 u2) := hid (bl_then (HX1.out) hbu); clear hbu)
  refine hK.out _ _ ?_ (fun hHeld => ?_)
  · first | assumption | exact HSK.out _ HX2.out
  clear hK K
  try simp only [Act.put, List.getElem_toArray, List.getElem_cons_succ, List.getElem_cons_zero, List.setIfInBounds_toArray, List.set_cons_zero, List.set_cons_succ]
  refine wpAnyH_ready (rs := [7]) (by kernel_rfl) (by simp) ?_
  refine AllReadyH.cons rfl (fun K hK => ?_) AllReadyH.nil
  go_simp
  go_wp2_with (go_at_call 27; refine (equalD (d + 1) _ Z Z2 _ _ _ _ (HA.out.kept (below_trans hb3.out (HX2.out))) (HB.out.kept (below_trans hb3.out (HX2.out)))).mono ?_; rintro e u3 hEq; obtain ⟨rfl, hbu⟩ := EqR.val hEq bq hbq; clear hEq; have HX3 : Hid (Below w3.heap.size w3 u3) := hid (bl_then (HX2.out) hbu); clear hbu)
  refine hK.out _ _ ?_ (fun hHeld => ?_)
  · first | assumption | exact HSK.out _ HX3.out
  clear hK K
  try simp only [Act.put, List.getElem_toArray, List.getElem_cons_succ, List.getElem_cons_zero, List.setIfInBounds_toArray, List.set_cons_zero, List.set_cons_succ]
  refine wpAnyH_take (i := 8) (v := ?_) rfl (by kernel_rfl) (by kernel_rfl) (by kernel_rfl) (fun _ _ _ h => h) (Or.inl ⟨by rfl, ?_⟩) (by assumption) ?_
  rotate_left
  · (intro w hSw; (try dsimp only at hSw); go_simp; (try with_reducible rfl))
  try simp only [Act.put, List.getElem_toArray, List.getElem_cons_succ, List.getElem_cons_zero, List.setIfInBounds_toArray, List.set_cons_zero, List.set_cons_succ]
  refine wpAnyH_take (i := 9) (v := ?_) rfl (by kernel_rfl) (by kernel_rfl) (by kernel_rfl) (fun _ _ _ h => h) (Or.inl ⟨by rfl, ?_⟩) (by assumption) ?_
  rotate_left
  · (intro w hSw; (try dsimp only at hSw); go_simp; (try with_reducible rfl))
  try simp only [Act.put, List.getElem_toArray, List.getElem_cons_succ, List.getElem_cons_zero, List.setIfInBounds_toArray, List.set_cons_zero, List.set_cons_succ]
  refine wpAnyH_take (i := 10) (v := ?_) rfl (by kernel_rfl) (by kernel_rfl) (by kernel_rfl) (fun _ _ _ h => h) (Or.inl ⟨by rfl, ?_⟩) (by assumption) ?_
  rotate_left
  · (intro w hSw; (try dsimp only at hSw); go_simp; (try with_reducible rfl))
  try simp only [Act.put, List.getElem_toArray, List.getElem_cons_succ, List.getElem_cons_zero, List.setIfInBounds_toArray, List.set_cons_zero, List.set_cons_succ]
  refine wpAnyH_take (i := 11) (v := ?_) rfl (by kernel_rfl) (by kernel_rfl) (by kernel_rfl) (fun _ _ _ h => h) (Or.inl ⟨by rfl, ?_⟩) (by assumption) ?_
  rotate_left
  · (intro w hSw; (try dsimp only at hSw); go_simp; (try with_reducible rfl))
  try simp only [Act.put, List.getElem_toArray, List.getElem_cons_succ, List.getElem_cons_zero, List.setIfInBounds_toArray, List.set_cons_zero, List.set_cons_succ]
  refine wpAnyH_take (i := 13) (v := ?_) rfl (by kernel_rfl) (by kernel_rfl) (by kernel_rfl) (fun _ _ _ h => h) (Or.inl ⟨by rfl, ?_⟩) (by assumption) ?_
  rotate_left
  · (intro w hSw; (try dsimp only at hSw); go_simp; (try with_reducible rfl))
  try simp only [Act.put, List.getElem_toArray, List.getElem_cons_succ, List.getElem_cons_zero, List.setIfInBounds_toArray, List.set_cons_zero, List.set_cons_succ]
  refine wpAnyH_ready (rs := [12]) (by kernel_rfl) (by simp) ?_
  refine AllReadyH.cons rfl (fun K hK => ?_) AllReadyH.nil
  go_simp
  go_wp2_with (go_at_call 28; refine (copyT (d + 1) _ Z _ ma (HA.out.kept (below_trans hb3.out (HX3.out)))).mono ?_; rintro e u4 ⟨ks, rfl, hn, hbu⟩; have HX4 : Hid (Below w3.heap.size w3 u4) := hid (bl_then (HX3.out) hbu); obtain ⟨f1, g1, f2, g2, rfl, -⟩ := msg_openD hn; have HCP := hid hn; clear hn; clear hbu)
  refine hK.out _ _ ?_ (fun hHeld => ?_)
  · first | assumption | exact HSK.out _ HX4.out
  clear hK K
  try simp only [Act.put, List.getElem_toArray, List.getElem_cons_succ, List.getElem_cons_zero, List.setIfInBounds_toArray, List.set_cons_zero, List.set_cons_succ]
  refine wpAnyH_ready (rs := [14]) (by kernel_rfl) (by simp) ?_
  refine AllReadyH.cons rfl (fun K hK => ?_) AllReadyH.nil
  go_simp
  go_wp2_with (go_at_call 27; refine (equalD (d + 1) _ _ Z _ _ _ _ HCP.out (HA.out.kept (below_trans hb3.out (HX4.out)))).mono ?_; rintro e u5 hEq; obtain ⟨rfl, hbu⟩ := EqR.val hEq true ⟨fun _ => rfl, fun _ => rfl⟩; clear hEq; have HX5 : Hid (Below w3.heap.size w3 u5) := hid (bl_then (HX4.out) hbu); clear hbu)
  refine hK.out _ _ ?_ (fun hHeld => ?_)
  · first | assumption | exact HSK.out _ HX5.out
  clear hK K
  try simp only [Act.put, List.getElem_toArray, List.getElem_cons_succ, List.getElem_cons_zero, List.setIfInBounds_toArray, List.set_cons_zero, List.set_cons_succ]
  refine wpAnyH_take (i := 15) (v := ?_) rfl (by kernel_rfl) (by kernel_rfl) (by kernel_rfl) (fun _ _ _ h => h) (Or.inl ⟨by rfl, ?_⟩) (by assumption) ?_
  rotate_left
  · (intro w hSw; (try dsimp only at hSw); go_simp; (try with_reducible rfl))
  try simp only [Act.put, List.getElem_toArray, List.getElem_cons_succ, List.getElem_cons_zero, List.setIfInBounds_toArray, List.set_cons_zero, List.set_cons_succ]
  refine wpAnyH_take (i := 16) (v := ?_) rfl (by kernel_rfl) (by kernel_rfl) (by kernel_rfl) (fun _ _ _ h => h) (Or.inl ⟨by rfl, ?_⟩) (by assumption) ?_
  rotate_left
  · (intro w hSw; (try dsimp only at hSw); go_simp; (try with_reducible rfl))
  try simp only [Act.put, List.getElem_toArray, List.getElem_cons_succ, List.getElem_cons_zero, List.setIfInBounds_toArray, List.set_cons_zero, List.set_cons_succ]
  refine wpAnyH_take (i := 17) (v := ?_) rfl (by kernel_rfl) (by kernel_rfl) (by kernel_rfl) (fun _ _ _ h => h) (Or.inl ⟨by rfl, ?_⟩) (by assumption) ?_
  rotate_left
  · (intro w hSw; (try dsimp only at hSw); go_simp; (try with_reducible rfl))
  try simp only [Act.put, List.getElem_toArray, List.getElem_cons_succ, List.getElem_cons_zero, List.setIfInBounds_toArray, List.set_cons_zero, List.set_cons_succ]
  refine wpAnyH_take (i := 19) (v := ?_) rfl (by kernel_rfl) (by kernel_rfl) (by kernel_rfl) (fun _ _ _ h => h) (Or.inl ⟨by rfl, ?_⟩) (by assumption) ?_
  rotate_left
  · (intro w hSw; (try dsimp only at hSw); go_simp; (try with_reducible rfl))
  try simp only [Act.put, List.getElem_toArray, List.getElem_cons_succ, List.getElem_cons_zero, List.setIfInBounds_toArray, List.set_cons_zero, List.set_cons_succ]
  refine wpAnyH_ready (rs := [18]) (by kernel_rfl) (by simp) ?_
  refine AllReadyH.cons rfl (fun K hK => ?_) AllReadyH.nil
  go_simp
  go_wp2_with (go_at_call 17; refine (depthT (d + 1) hd _ Z _ ma (HA.out.kept (below_trans hb3.out (HX5.out)))).mono ?_; rintro e u6 ⟨rfl, hbu⟩; have HX6 : Hid (Below w3.heap.size w3 u6) := hid (bl_then (HX5.out) hbu); clear hbu)
  refine hK.out _ _ ?_ (fun hHeld => ?_)
  · first | assumption | exact HSK.out _ HX6.out
  clear hK K
  try simp only [Act.put, List.getElem_toArray, List.getElem_cons_succ, List.getElem_cons_zero, List.setIfInBounds_toArray, List.set_cons_zero, List.set_cons_succ]
  refine wpAnyH_ready (rs := [20]) (by kernel_rfl) (by simp) ?_
  refine AllReadyH.cons rfl (fun K hK => ?_) AllReadyH.nil
  go_simp
  go_wp2_with (go_at_call 29; refine (depthDR (d + 1) hd _ Z _ ma (HA.out.kept (below_trans hb3.out (HX6.out)))).mono ?_; rintro e u7 ⟨rfl, hbu⟩; have HX7 : Hid (Below w3.heap.size w3 u7) := hid (bl_then (HX6.out) hbu); clear hbu)
  refine hK.out _ _ ?_ (fun hHeld => ?_)
  · first | assumption | exact HSK.out _ HX7.out
  clear hK K
  try simp only [Act.put, List.getElem_toArray, List.getElem_cons_succ, List.getElem_cons_zero, List.setIfInBounds_toArray, List.set_cons_zero, List.set_cons_succ]
  refine wpAnyH_take (i := 21) (v := ?_) rfl (by kernel_rfl) (by kernel_rfl) (by kernel_rfl) (fun _ _ _ h => h) (Or.inl ⟨by rfl, ?_⟩) (by assumption) ?_
  rotate_left
  · (intro w hSw; (try dsimp only at hSw); go_simp; (try with_reducible rfl))
  try simp only [Act.put, List.getElem_toArray, List.getElem_cons_succ, List.getElem_cons_zero, List.setIfInBounds_toArray, List.set_cons_zero, List.set_cons_succ]
  refine wpAnyH_take (i := 22) (v := ?_) rfl (by kernel_rfl) (by kernel_rfl) (by kernel_rfl) (fun _ _ _ h => h) (Or.inl ⟨by rfl, ?_⟩) (by assumption) ?_
  rotate_left
  · (intro w hSw; (try dsimp only at hSw); go_simp; (try with_reducible rfl))
  try simp only [Act.put, List.getElem_toArray, List.getElem_cons_succ, List.getElem_cons_zero, List.setIfInBounds_toArray, List.set_cons_zero, List.set_cons_succ]
  refine wpAnyH_take (i := 23) (v := ?_) rfl (by kernel_rfl) (by kernel_rfl) (by kernel_rfl) (fun _ _ _ h => h) (Or.inl ⟨by rfl, ?_⟩) (by assumption) ?_
  rotate_left
  · (intro w hSw; (try dsimp only at hSw); go_simp; (try with_reducible rfl))
  try simp only [Act.put, List.getElem_toArray, List.getElem_cons_succ, List.getElem_cons_zero, List.setIfInBounds_toArray, List.set_cons_zero, List.set_cons_succ]
  refine wpAnyH_take (i := 24) (v := ?_) rfl (by kernel_rfl) (by kernel_rfl) (by kernel_rfl) (fun _ _ _ h => h) (Or.inl ⟨by rfl, ?_⟩) (by assumption) ?_
  rotate_left
  · (intro w hSw; (try dsimp only at hSw); go_simp; (try with_reducible rfl))
  try simp only [Act.put, List.getElem_toArray, List.getElem_cons_succ, List.getElem_cons_zero, List.setIfInBounds_toArray, List.set_cons_zero, List.set_cons_succ]
  refine wpAnyH_take (i := 25) (v := ?_) rfl (by kernel_rfl) (by kernel_rfl) (by kernel_rfl) (fun _ _ _ h => h) (Or.inl ⟨by rfl, ?_⟩) (by assumption) ?_
  rotate_left
  · (intro w hSw; (try dsimp only at hSw); go_simp; (try with_reducible rfl))
  try simp only [Act.put, List.getElem_toArray, List.getElem_cons_succ, List.getElem_cons_zero, List.setIfInBounds_toArray, List.set_cons_zero, List.set_cons_succ]
  refine wpAnyH_take (i := 26) (v := ?_) rfl (by kernel_rfl) (by kernel_rfl) (by kernel_rfl) (fun _ _ _ h => h) (Or.inl ⟨by rfl, ?_⟩) (by assumption) ?_
  rotate_left
  · (intro w hSw; (try dsimp only at hSw); go_simp; (try with_reducible rfl))
  try simp only [Act.put, List.getElem_toArray, List.getElem_cons_succ, List.getElem_cons_zero, List.setIfInBounds_toArray, List.set_cons_zero, List.set_cons_succ]
  refine wpAnyH_take (i := 27) (v := ?_) rfl (by kernel_rfl) (by kernel_rfl) (by kernel_rfl) (fun _ _ _ h => h) (Or.inl ⟨by rfl, ?_⟩) (by assumption) ?_
  rotate_left
  · (intro w hSw; (try dsimp only at hSw); go_simp; (try with_reducible rfl))
  try simp only [Act.put, List.getElem_toArray, List.getElem_cons_succ, List.getElem_cons_zero, List.setIfInBounds_toArray, List.set_cons_zero, List.set_cons_succ]
  refine wpAnyH_take (i := 28) (v := ?_) rfl (by kernel_rfl) (by kernel_rfl) (by kernel_rfl) (fun _ _ _ h => h) (Or.inl ⟨by rfl, ?_⟩) (by assumption) ?_
  rotate_left
  · (intro w hSw; (try dsimp only at hSw); go_simp; (try with_reducible rfl))
  try simp only [Act.put, List.getElem_toArray, List.getElem_cons_succ, List.getElem_cons_zero, List.setIfInBounds_toArray, List.set_cons_zero, List.set_cons_succ]
  refine wpAnyH_take (i := 29) (v := ?_) rfl (by kernel_rfl) (by kernel_rfl) (by kernel_rfl) (fun _ _ _ h => h) (Or.inl ⟨by rfl, ?_⟩) (by assumption) ?_
  rotate_left
  · (intro w hSw; (try dsimp only at hSw); go_simp; (try with_reducible rfl))
  try simp only [Act.put, List.getElem_toArray, List.getElem_cons_succ, List.getElem_cons_zero, List.setIfInBounds_toArray, List.set_cons_zero, List.set_cons_succ]
  refine wpAnyH_take (i := 30) (v := ?_) rfl (by kernel_rfl) (by kernel_rfl) (by kernel_rfl) (fun _ _ _ h => h) (Or.inl ⟨by rfl, ?_⟩) (by assumption) ?_
  rotate_left
  · (intro w hSw; (try dsimp only at hSw); go_simp; (try with_reducible rfl))
  try simp only [Act.put, List.getElem_toArray, List.getElem_cons_succ, List.getElem_cons_zero, List.setIfInBounds_toArray, List.set_cons_zero, List.set_cons_succ]
  refine wpAnyH_ready (rs := [31]) (by kernel_rfl) (by simp) ?_
  refine AllReadyH.cons rfl (fun K hK => ?_) AllReadyH.nil
  go_simp
  go_wp2_with (go_at_call 30; refine (sameFieldD d (equalD d) _ AnyZ AnyZ _ _ _ _ (HXX.out.kept (HX7.out)) (HG2.out.kept (HX7.out))).mono ?_; rintro e u8 hEq; obtain ⟨rfl, hbu⟩ := EqR.val hEq true ⟨fun _ => rfl, fun _ => rfl⟩; clear hEq; have HX8 : Hid (Below w3.heap.size w3 u8) := hid (bl_then (HX7.out) hbu); clear hbu)
  refine hK.out _ _ ?_ (fun hHeld => ?_)
  · first | assumption | exact HSK.out _ HX8.out
  clear hK K
  try simp only [Act.put, List.getElem_toArray, List.getElem_cons_succ, List.getElem_cons_zero, List.setIfInBounds_toArray, List.set_cons_zero, List.set_cons_succ]
  refine wpAnyH_take (i := 32) (v := ?_) rfl (by kernel_rfl) (by kernel_rfl) (by kernel_rfl) (fun _ _ _ h => h) (Or.inl ⟨by rfl, ?_⟩) (by assumption) ?_
  rotate_left
  · (intro w hSw; (try dsimp only at hSw); go_simp; (try with_reducible rfl))
  try simp only [Act.put, List.getElem_toArray, List.getElem_cons_succ, List.getElem_cons_zero, List.setIfInBounds_toArray, List.set_cons_zero, List.set_cons_succ]
  refine wpAnyH_take (i := 33) (v := ?_) rfl (by kernel_rfl) (by kernel_rfl) (by kernel_rfl) (fun _ _ _ h => h) (Or.inl ⟨by rfl, ?_⟩) (by assumption) ?_
  rotate_left
  · (intro w hSw; (try dsimp only at hSw); go_simp; (try with_reducible rfl))
  try simp only [Act.put, List.getElem_toArray, List.getElem_cons_succ, List.getElem_cons_zero, List.setIfInBounds_toArray, List.set_cons_zero, List.set_cons_succ]
  refine wpAnyH_take (i := 34) (v := ?_) rfl (by kernel_rfl) (by kernel_rfl) (by kernel_rfl) (fun _ _ _ h => h) (Or.inl ⟨by rfl, ?_⟩) (by assumption) ?_
  rotate_left
  · (intro w hSw; (try dsimp only at hSw); go_simp; (try with_reducible rfl))
  try simp only [Act.put, List.getElem_toArray, List.getElem_cons_succ, List.getElem_cons_zero, List.setIfInBounds_toArray, List.set_cons_zero, List.set_cons_succ]
  refine wpAnyH_take (i := 35) (v := ?_) rfl (by kernel_rfl) (by kernel_rfl) (by kernel_rfl) (fun _ _ _ h => h) (Or.inl ⟨by rfl, ?_⟩) (by assumption) ?_
  rotate_left
  · (intro w hSw; (try dsimp only at hSw); go_simp; (try with_reducible rfl))
  try simp only [Act.put, List.getElem_toArray, List.getElem_cons_succ, List.getElem_cons_zero, List.setIfInBounds_toArray, List.set_cons_zero, List.set_cons_succ]
  refine wpAnyH_take (i := 37) (v := ?_) rfl (by kernel_rfl) (by kernel_rfl) (by kernel_rfl) (fun _ _ _ h => h) (Or.inl ⟨by rfl, ?_⟩) (by assumption) ?_
  rotate_left
  · (intro w hSw; (try dsimp only at hSw); go_simp; (try with_reducible rfl))
  try simp only [Act.put, List.getElem_toArray, List.getElem_cons_succ, List.getElem_cons_zero, List.setIfInBounds_toArray, List.set_cons_zero, List.set_cons_succ]
  refine wpAnyH_take (i := 38) (v := ?_) rfl (by kernel_rfl) (by kernel_rfl) (by kernel_rfl) (fun _ _ _ h => h) (Or.inl ⟨by rfl, ?_⟩) (by assumption) ?_
  rotate_left
  · (intro w hSw; (try dsimp only at hSw); go_simp; (try with_reducible rfl))
  try simp only [Act.put, List.getElem_toArray, List.getElem_cons_succ, List.getElem_cons_zero, List.setIfInBounds_toArray, List.set_cons_zero, List.set_cons_succ]
  refine wpAnyH_ready (rs := [36]) (by kernel_rfl) (by simp) ?_
  refine AllReadyH.cons rfl (fun K hK => ?_) AllReadyH.nil
  go_simp
  go_wp2_with (go_at_call 31; refine (clearT d _ Z _ ma (HA.out.kept (below_trans hb3.out (HX8.out))) n).mono ?_; rintro e u9 ⟨ks, rfl, hn, hbu⟩; have HX9 : Hid (Below w3.heap.size w3 u9) := hid (bl_then (HX8.out) hbu); obtain ⟨h1, i1, h2, i2, rfl, -⟩ := msg_openD hn; have HC1 := hid hn; clear hn; clear hbu)
  refine hK.out _ _ ?_ (fun hHeld => ?_)
  · first | assumption | exact HSK.out _ HX9.out
  clear hK K
  try simp only [Act.put, List.getElem_toArray, List.getElem_cons_succ, List.getElem_cons_zero, List.setIfInBounds_toArray, List.set_cons_zero, List.set_cons_succ]
  refine wpAnyH_ready (rs := [39]) (by kernel_rfl) (by simp) ?_
  refine AllReadyH.cons rfl (fun K hK => ?_) AllReadyH.nil
  go_simp
  go_wp2_with (go_at_call 32; refine (clearD d _ Z _ ma (HA.out.kept (below_trans hb3.out (HX9.out))) n).mono ?_; rintro e u10 ⟨ks, rfl, hn, hbu⟩; have HX10 : Hid (Below w3.heap.size w3 u10) := hid (bl_then (HX9.out) hbu); obtain ⟨j1, l1, j2, l2, rfl, -⟩ := msg_openD hn; have HC2 := hid hn; have HC1b := hid (HC1.out.kept hbu); clear hn; clear hbu)
  refine hK.out _ _ ?_ (fun hHeld => ?_)
  · first | assumption | exact HSK.out _ HX10.out
  clear hK K
  try simp only [Act.put, List.getElem_toArray, List.getElem_cons_succ, List.getElem_cons_zero, List.setIfInBounds_toArray, List.set_cons_zero, List.set_cons_succ]
  refine wpAnyH_ready (rs := [40]) (by kernel_rfl) (by simp) ?_
  refine AllReadyH.cons rfl (fun K hK => ?_) AllReadyH.nil
  go_simp
  go_wp2_with (go_at_call 27; refine (equalD (d + 1) _ _ _ _ _ _ _ HC1b.out HC2.out).mono ?_; rintro e u11 hEq; obtain ⟨rfl, hbu⟩ := EqR.val hEq true ⟨fun _ => rfl, fun _ => rfl⟩; clear hEq; have HX11 : Hid (Below w3.heap.size w3 u11) := hid (bl_then (HX10.out) hbu); clear hbu)
  refine hK.out _ _ ?_ (fun hHeld => ?_)
  · first | assumption | exact HSK.out _ HX11.out
  clear hK K
  try simp only [Act.put, List.getElem_toArray, List.getElem_cons_succ, List.getElem_cons_zero, List.setIfInBounds_toArray, List.set_cons_zero, List.set_cons_succ]
  refine wpAnyH_take (i := 41) (v := ?_) rfl (by kernel_rfl) (by kernel_rfl) (by kernel_rfl) (fun _ _ _ h => h) (Or.inl ⟨by rfl, ?_⟩) (by assumption) ?_
  rotate_left
  · (intro w hSw; (try dsimp only at hSw); go_simp; (try with_reducible rfl))
  try simp only [Act.put, List.getElem_toArray, List.getElem_cons_succ, List.getElem_cons_zero, List.setIfInBounds_toArray, List.set_cons_zero, List.set_cons_succ]
  refine wpAnyH_take (i := 42) (v := ?_) rfl (by kernel_rfl) (by kernel_rfl) (by kernel_rfl) (fun _ _ _ h => h) (Or.inl ⟨by rfl, ?_⟩) (by assumption) ?_
  rotate_left
  · (intro w hSw; (try dsimp only at hSw); go_simp; (try with_reducible rfl))
  try simp only [Act.put, List.getElem_toArray, List.getElem_cons_succ, List.getElem_cons_zero, List.setIfInBounds_toArray, List.set_cons_zero, List.set_cons_succ]
  refine wpAnyH_done (by kernel_rfl) ?_ _
  go_wp2
  go_ret
  exact ⟨rfl, below_trans hb3.out HX11.out⟩
end Go.Proofs.YtpmpfcnmjdeoiaaGreatDoor
namespace Go.Proofs.YtpmpfcnmjdeoiaaGreatDoor
open Go.ChangeShapes Go.WideShapes Go.ChangeAt Go.RowKit
set_option maxRecDepth 1000000
set_option maxRecDepth 100000
/-- The rows' list. -/
def laidL : List (String × DataW Unit) := [("unicode/utf8.acceptRanges", Rows.laid_unicode_utf8_acceptRanges), ("unicode/utf8.first", Rows.laid_unicode_utf8_first)]
theorem laid_plain {W : World} (h : laidMetH Tryz.prog laidL W) : laidMet Tryz.prog laidL W := h
/-- A block's cells laid anew. -/
noncomputable def layAt (g : Nat) (cs : Array Value) (w : World) : World := { w with heap := w.heap.modify g fun
      | .cells _ t frozen => .cells cs t frozen
      | o => o }
def numV : DataW Unit → Value
  | .lit (.int k n) => .int k n
  | _ => undef
def rowV : DataW Unit → List Value
  | .agg ds => ds.map numV
  | _ => []
def rowsV : DataW Unit → List Value
  | .agg ds => ds.flatMap rowV
  | _ => []
noncomputable def laidWorld (os : Os) : World :=
  layAt 2 (List.toArray (rowsV Rows.laid_unicode_utf8_acceptRanges)) (layAt 1 (List.toArray (rowV Rows.laid_unicode_utf8_first)) (World.holding Tryz.prog os ⟨#[], #[], []⟩))
theorem laid_met (os : Os) (args : Array Value) : laidMet Tryz.prog laidL ((laidWorld os).forCall (fun _ _ => 0) ⟨#[], args, []⟩).memory :=
  laidMet_of_run' 8 (by kernel_rfl) (by kernel_rfl)
theorem maxLen_cell {W : World} (h : W.ShapedOpen Tryz.prog) : ∃ m, W.cell? ⟨0, 0, none⟩ = some (.int .i64 m) :=
  Go.Proofs.cell_of_shapedOpen_int (zero := #[.int .i64 0]) (t := 3) h (of_decide_eq_true (by kernel_rfl)) (by kernel_rfl) rfl (by kernel_rfl) (by kernel_rfl) Tryz.underlying3
end Go.Proofs.YtpmpfcnmjdeoiaaGreatDoor
