/-
  The document's Clear.
  The type of the messages in a field.
  A good table's message.
  Whether fields rise.
  The shape of a field.
  Of each oneof one member.
-/
import Derived.Test.YtgephggcgopfgaaGreatDoorCCC
import Derived.Test.YtgephggcgopfgaaGreatDoorCAP
namespace Go.Proofs.YtgephggcgopfgaaGreatDoor
open Go.RowKit
set_option maxRecDepth 1000000
set_option linter.unusedVariables false
set_option linter.unusedSimpArgs false
set_option maxHeartbeats 4000000
theorem fieldRun1 (s u : Value) (W : World) (hs : u.cells = #[u]) : (Instr.field 35 (.agg #[s, u]) 1).run Tryz.prog W = .ok u W := by
  simp [Instr.field, part, asAgg, go_sem]
theorem clearD (d : Nat) (w : World) (Z : Nat → Prop) (cs : List Value) (m : CM) (h : MsgE w Z (d + 1) cs m) (n : Int) : Calls Tryz.prog 32 #[.agg cs.toArray, .int .i64 n] w (NewE (FmM (d + 1)) w (CM.mk (m.fs.filter (notN n)) m.us)) := by
  have HCM := hid fun W (hW : Below w.heap.size w W) => copyD (d + 1) W Z cs m (h.kept hW)
  obtain ⟨ka, kc, va, vc, rfl, g, q, l1, l2⟩ := msg_open (MsgE.old (d + 1) _ _ h)
  have m1 : (m.fs.length : Int) ≤ 9223372036854775807 := by omega
  have G := hid g
  have HCC := hid (copyFieldD d (copyD d))
  clear h g q
  go_enter Tryz.func32, Tryz.ntmps32
  go_wp2_with fail
  refine (HCM.out _ (by exact blBy)).mono ?_
  rintro e w1 ⟨ds, rfl, hn, hbx⟩
  obtain ⟨fa, fc, ua, uc, rfl, -, gU, -⟩ := msg_open hn
  have BM0 : Hid (Blk w1 (w.heap.size) 35 #[.slice ka m.fs.length kc, .slice va m.us.length vc]) := hid (((Blk.new _ _ _).kept (below_alloc _)).kept hbx)
  have BR0 : Hid (Blk w1 (w.heap.size + 1) 35 #[.slice none 0 0, .slice none 0 0]) := hid ((Blk.newAt (by simp)).kept hbx)
  have HB0 : Hid (Below w.heap.size w w1) := hid (bl_then (by exact blBy) hbx)
  have HU0 : Hid (EnsR w1 (fun b => w.heap.size + 2 ≤ b ∧ b < w1.heap.size) (.slice ua m.us.length uc) m.us) := hid (EnsR.go (EnsR.old gU) (Keep.refl (fun _ => True) w1) (fun _ _ => trivial) (fun b hz => ⟨by have := hz.1; simpa using this, hz.2⟩))
  have HP0 : Hid (w.heap.size + 2 ≤ w1.heap.size) := hid (by have := hbx.size; simpa using this)
  clear hbx hn gU HCM
  have HFD := fieldRun1 (.slice fa m.fs.length fc) (.slice ua m.us.length uc) w1 rfl
  go_wp2
  generalize hpo : w1.heap.size = po at *
  go_loopw [6] (fun s6 wr => ∃ (j k : Nat) (oa : Option Addr) (oc : Nat), s6 = .int .i64 j ∧ j ≤ m.fs.length ∧ Hid (((m.fs.take j).filter (notN n)).length = k) ∧ Hid (Blk wr (w.heap.size) 35 #[.slice ka m.fs.length kc, .slice va m.us.length vc]) ∧ Hid (Blk wr (w.heap.size + 1) 35 #[.slice none 0 0, .slice none 0 0]) ∧ Hid (Blk wr (po) 35 #[.slice oa k oc, .slice ua m.us.length uc]) ∧ Hid (EnsR wr (fun b => w.heap.size + 2 ≤ b ∧ b < po) (.slice ua m.us.length uc) m.us) ∧ Hid (OwnM wr (po + 1) 29 3 (FmF d) (.slice oa k oc) ((m.fs.take j).filter (notN n))) ∧ Hid (Below w.heap.size w wr) ∧ Hid (po + 1 ≤ wr.heap.size)) (fun s6 wr => m.fs.length - numAt wr s6)
  case atStart => exact ⟨0, 0, none, 0, rfl, by omega, hid rfl, hid (BM0.out.kept (below_alloc _)), hid (BR0.out.kept (below_alloc _)), hid (Blk.newAt hpo.symm), hid (HU0.out.kept (below_alloc _)), hid (OwnM.nil _ _ _ _ _), hid (by have := HB0.out; exact blBy), hid (by simp; omega)⟩
  case round =>
    clear BM0 BR0 HB0 HU0
    obtain ⟨j, k, oa, oc, rfl, hj, HLN, BM, BR, BO, HU, HO, hb, HS⟩ := hrel
    have hP := HP0.out
    have xm := BM.out.cellF
    have zm := BM.out.lt
    have xo := BO.out.cellF
    have yo := BO.out.frz
    have zo := BO.out.lt
    by_cases hlt : j < m.fs.length
    · have k2 : (j : Int) < (m.fs.length : Int) := by omega
      obtain ⟨b1, o1, pa, pc, qa, qc, rfl, hz1, hb1, c0, c1, c2, he⟩ := fls_at (G.out.kept hb.out) hlt
      have HE := hid he
      have HTK : Hid ((m.fs.take (j + 1)).filter (notN n) = (m.fs.take j).filter (notN n) ++ (if notN n m.fs[j] = true then [m.fs[j]] else [])) := hid (by rw [List.take_succ_eq_append_getElem hlt, List.filter_append]; simp only [List.filter_cons, List.filter_nil])
      have HLB : Hid (k ≤ 4000000) := hid (by rw [← HLN.out]; exact fl_len l1 j)
      generalize m.fs[j] = x at *
      have hbl := hz1.2
      clear he hz1
      by_cases hq : x.num = n
      · have k4 : (x.num != n) = false := by simp [hq]
        have hqn : notN n x = false := by simp [notN, hq]
        rw [hqn, if_neg (by simp), List.append_nil] at HTK
        subst hq
        go_wp2
        exact ⟨⟨j + 1, k, oa, oc, by simp, by omega, hid (by rw [HTK.out]; exact HLN.out), BM, BR, BO, HU, hid (by rw [HTK.out]; exact HO.out), hb, HS⟩, by simp [numAt]; omega⟩
      · have k4 : (x.num != n) = true := by simp [hq]
        have hqn : notN n x = true := by simp [notN, hq]
        rw [hqn, if_pos rfl] at HTK
        have HSK : Hid (∀ W, Keep (· < po) wr W → (fun W => (∀ k, W.cell? ⟨w.heap.size, k, none⟩ = #[.slice (some ⟨b1, o1, none⟩) m.fs.length kc, .slice va m.us.length vc][k]?) ∧ W.cell? ⟨b1, o1 + j * 3, none⟩ = some (.int .i64 x.num) ∧ W.cell? ⟨b1, o1 + j * 3 + 1, none⟩ = some (.slice pa x.ks.length pc) ∧ W.cell? ⟨b1, o1 + j * 3 + 2, none⟩ = some (.slice qa x.vs.length qc)) W) := hid fun W hk => ⟨(BM.out.keep hk (show _ < _ by omega)).cellF, cell_kp c0 hk (show _ < _ by omega), cell_kp c1 hk (show _ < _ by omega), cell_kp c2 hk (show _ < _ by omega)⟩
        clear hqn
        go_upto_region 6 with fail
        refine wp_region_held_drew (S := (fun W => (∀ k, W.cell? ⟨w.heap.size, k, none⟩ = #[.slice (some ⟨b1, o1, none⟩) m.fs.length kc, .slice va m.us.length vc][k]?) ∧ W.cell? ⟨b1, o1 + j * 3, none⟩ = some (.int .i64 x.num) ∧ W.cell? ⟨b1, o1 + j * 3 + 1, none⟩ = some (.slice pa x.ks.length pc) ∧ W.cell? ⟨b1, o1 + j * 3 + 2, none⟩ = some (.slice qa x.vs.length qc))) (by kernel_rfl) ?_ (fun hHeld => ?_)
        · exact HSK.out _ (Keep.ofBelow (below_drew1 _))
        refine wpAnyH_take (i := 0) (v := ?_) rfl (by kernel_rfl) (by kernel_rfl) (by kernel_rfl) (fun _ _ _ h => h) (Or.inl ⟨by rfl, ?_⟩) (by assumption) ?_
        rotate_left
        · (intro w hSw; (try dsimp only at hSw); go_simp; (try with_reducible rfl))
        try simp only [Act.put, List.getElem_toArray, List.getElem_cons_succ, List.getElem_cons_zero, List.setIfInBounds_toArray, List.set_cons_zero, List.set_cons_succ]
        refine wpAnyH_take (i := 2) (v := ?_) rfl (by kernel_rfl) (by kernel_rfl) (by kernel_rfl) (fun _ _ _ h => h) (Or.inl ⟨by rfl, ?_⟩) (by assumption) ?_
        rotate_left
        · (intro w hSw; (try dsimp only at hSw); go_simp; (try with_reducible rfl))
        try simp only [Act.put, List.getElem_toArray, List.getElem_cons_succ, List.getElem_cons_zero, List.setIfInBounds_toArray, List.set_cons_zero, List.set_cons_succ]
        refine wpAnyH_take (i := 3) (v := ?_) rfl (by kernel_rfl) (by kernel_rfl) (by kernel_rfl) (fun _ _ _ h => h) (Or.inl ⟨by rfl, ?_⟩) (by assumption) ?_
        rotate_left
        · (intro w hSw; (try dsimp only at hSw); go_simp; (try with_reducible rfl))
        try simp only [Act.put, List.getElem_toArray, List.getElem_cons_succ, List.getElem_cons_zero, List.setIfInBounds_toArray, List.set_cons_zero, List.set_cons_succ]
        refine wpAnyH_take (i := 4) (v := ?_) rfl (by kernel_rfl) (by kernel_rfl) (by kernel_rfl) (fun _ _ _ h => h) (Or.inl ⟨by rfl, ?_⟩) (by assumption) ?_
        rotate_left
        · (intro w hSw; (try dsimp only at hSw); go_simp; (try with_reducible rfl))
        try simp only [Act.put, List.getElem_toArray, List.getElem_cons_succ, List.getElem_cons_zero, List.setIfInBounds_toArray, List.set_cons_zero, List.set_cons_succ]
        refine wpAnyH_take (i := 5) (v := ?_) rfl (by kernel_rfl) (by kernel_rfl) (by kernel_rfl) (fun _ _ _ h => h) (Or.inl ⟨by rfl, ?_⟩) (by assumption) ?_
        rotate_left
        · (intro w hSw; (try dsimp only at hSw); go_simp; (try with_reducible rfl))
        try simp only [Act.put, List.getElem_toArray, List.getElem_cons_succ, List.getElem_cons_zero, List.setIfInBounds_toArray, List.set_cons_zero, List.set_cons_succ]
        refine wpAnyH_take (i := 6) (v := ?_) rfl (by kernel_rfl) (by kernel_rfl) (by kernel_rfl) (fun _ _ _ h => h) (Or.inl ⟨by rfl, ?_⟩) (by assumption) ?_
        rotate_left
        · (intro w hSw; (try dsimp only at hSw); go_simp; (try with_reducible rfl))
        try simp only [Act.put, List.getElem_toArray, List.getElem_cons_succ, List.getElem_cons_zero, List.setIfInBounds_toArray, List.set_cons_zero, List.set_cons_succ]
        refine wpAnyH_ready (rs := [1, 7]) (by kernel_rfl) (by simp) ?_
        refine AllReadyH.cons rfl (fun K hK => ?_) ?_
        · go_simp
          refine hK.out _ _ ?_ (fun hHeld => ?_)
          · first | assumption | exact HSK.out _ (Keep.ofBelow (below_drew1 _))
          clear hK K
          try simp only [Act.put, List.getElem_toArray, List.getElem_cons_succ, List.getElem_cons_zero, List.setIfInBounds_toArray, List.set_cons_zero, List.set_cons_succ]
          refine wpAnyH_ready (rs := [7]) (by kernel_rfl) (by simp) ?_
          refine AllReadyH.cons rfl (fun K hK => ?_) ?_
          · go_simp
            go_wp2_with (go_at_call 68; refine (HCC.out _ (fun b => Z b ∧ b < w.heap.size) _ x (HE.out.kept (below_drew1 _))).mono ?_; rintro e u1 ⟨ds, rfl, hn, hbu⟩; have HX1 : Hid (Below wr.heap.size wr u1) := hid (bl_then (below_drew1 _) hbu); have K1 : Hid (Keep (· < po) wr u1) := hid (Keep.ofBelow HX1.out); have HZ := hid (zof_new (famF d) HO.out (by simp) HS.out hn); have HO1 := hid (HO.out.kept (famF d) HX1.out); obtain ⟨ka2, kc2, va2, vc2, rfl, -⟩ := fld_open HZ.out; have BO1 := hid (BO.out.kept HX1.out); have xo1 := BO1.out.cellF; have yo1 := BO1.out.frz; have zo1 := BO1.out.lt; have hs1 := HX1.out.size; clear hbu hn)
            refine hK.out _ _ ?_ (fun hHeld => ?_)
            · first | assumption | exact HSK.out _ (K1.out)
            clear hK K
            try simp only [Act.put, List.getElem_toArray, List.getElem_cons_succ, List.getElem_cons_zero, List.setIfInBounds_toArray, List.set_cons_zero, List.set_cons_succ]
            obtain ⟨la, lc, x3, HRUN, HO2, HG⟩ := OwnM.push (famF d) 29 32 56 (.agg #[.int .i64 0, .slice none 0 0, .slice none 0 0]) Tryz.underlying32 Tryz.infoF rfl (by decide) (by decide) HO1.out HZ.out (by have := HS.out; omega) (by rw [HLN.out]; exact HLB.out)
            rw [HLN.out] at HRUN HO2 HG
            refine wpAnyH_ready (rs := [8]) (by kernel_rfl) (by simp) ?_
            refine AllReadyH.cons rfl (fun K hK => ?_) ?_
            · go_simp
              refine hK.out _ _ ?_ (fun hHeld => ?_)
              · first | assumption | exact HSK.out _ (kpA K1.out _)
              clear hK K
              try simp only [Act.put, List.getElem_toArray, List.getElem_cons_succ, List.getElem_cons_zero, List.setIfInBounds_toArray, List.set_cons_zero, List.set_cons_succ]
              refine wpAnyH_ready (rs := [9]) (by kernel_rfl) (by simp) ?_
              refine AllReadyH.cons rfl (fun K hK => ?_) ?_
              · refine step_append_ran rfl _ _ 32 32 rfl rfl _ _ (.slice la (k + 1) lc) x3 rfl rfl HRUN.out ?_
                have KG : Hid (Keep (· < po + 1) u1 x3) := hid (Keep.ofGrow HG.out (fun q (hq : q < po + 1) e => by have := (HO1.out.own e).1; omega))
                have K3 : Hid (Keep (· < po) wr x3) := hid (K1.out.trans (KG.out.weak (fun q (hq : q < po) => by show q < po + 1; omega)))
                have BO3 : Hid (Blk x3 po 35 #[.slice oa k oc, .slice ua m.us.length uc]) := hid (BO1.out.keep KG.out (by show _ < _; omega))
                have xo3 := BO3.out.cellF
                have yo3 := BO3.out.frz
                have zo3 := BO3.out.lt
                have hs3 := HG.out.size
                refine hK.out _ _ ?_ (fun hHeld => ?_)
                · first | assumption | exact HSK.out _ (K3.out)
                clear hK K
                try simp only [Act.put, List.getElem_toArray, List.getElem_cons_succ, List.getElem_cons_zero, List.setIfInBounds_toArray, List.set_cons_zero, List.set_cons_succ]
                refine wpAnyH_take (i := 10) (v := ?_) rfl (by kernel_rfl) (by kernel_rfl) (by kernel_rfl) (fun _ _ _ h => h) (Or.inl ⟨by rfl, ?_⟩) (by assumption) ?_
                rotate_left
                · (intro w hSw; (try dsimp only at hSw); go_simp; (try with_reducible rfl))
                try simp only [Act.put, List.getElem_toArray, List.getElem_cons_succ, List.getElem_cons_zero, List.setIfInBounds_toArray, List.set_cons_zero, List.set_cons_succ]
                refine wpAnyH_ready (rs := [11]) (by kernel_rfl) (by simp) ?_
                refine AllReadyH.cons rfl (fun K hK => ?_) ?_
                · go_simp
                  refine hK.out _ _ ?_ (fun hHeld => ?_)
                  · first | assumption | exact HSK.out _ (kpS K3.out (by simp))
                  clear hK K
                  try simp only [Act.put, List.getElem_toArray, List.getElem_cons_succ, List.getElem_cons_zero, List.setIfInBounds_toArray, List.set_cons_zero, List.set_cons_succ]
                  refine wpAnyH_done (by kernel_rfl) ?_ _
                  go_wp2
                  exact ⟨⟨j + 1, k + 1, la, lc, by simp, by omega, hid (by rw [HTK.out, List.length_append, HLN.out]; rfl), hid ((BM.out.keep K3.out (show _ < _ by omega)).other (by first | (simp; done) | (simp; omega) | omega) _), hid ((BR.out.keep K3.out (show _ < _ by omega)).other (by first | (simp; done) | (simp; omega) | omega) _), hid ((BO3.out.set 0 _).is (by simp)), hid (EnsR.go HU.out (f := fun b => w.heap.size + 2 ≤ b ∧ b < po) ((K3.out.weak (fun q hq => hq.2)).trans (Keep.setCell _ _ _ (by first | (simp; done) | (simp; omega) | omega))) (fun _ h => h) (fun _ h => h)), hid (by rw [HTK.out]; exact HO2.out.keepB (famF d) (Keep.setCell _ _ _ (by simp))), hid (Below.trans hb.out (Below.trans (HX1.out.mono hb.out.size) (by have h3 := KG.out.below (B := w.heap.size) (by have := hb.out.size; omega) (fun k hk => by show k < _; omega); exact h3.setCell (by simp; omega) _))), hid (by have := HS.out; simp; omega)⟩, by simp [numAt]; omega⟩
                exact AllReadyH.nil
              exact AllReadyH.nil
            exact AllReadyH.nil
          exact AllReadyH.nil
        refine AllReadyH.cons rfl (fun K hK => ?_) ?_
        · go_simp
          go_wp2_with (go_at_call 68; refine (HCC.out _ (fun b => Z b ∧ b < w.heap.size) _ x (HE.out.kept (below_drew1 _))).mono ?_; rintro e u1 ⟨ds, rfl, hn, hbu⟩; have HX1 : Hid (Below wr.heap.size wr u1) := hid (bl_then (below_drew1 _) hbu); have K1 : Hid (Keep (· < po) wr u1) := hid (Keep.ofBelow HX1.out); have HZ := hid (zof_new (famF d) HO.out (by simp) HS.out hn); have HO1 := hid (HO.out.kept (famF d) HX1.out); obtain ⟨ka2, kc2, va2, vc2, rfl, -⟩ := fld_open HZ.out; have BO1 := hid (BO.out.kept HX1.out); have xo1 := BO1.out.cellF; have yo1 := BO1.out.frz; have zo1 := BO1.out.lt; have hs1 := HX1.out.size; clear hbu hn)
          refine hK.out _ _ ?_ (fun hHeld => ?_)
          · first | assumption | exact HSK.out _ (K1.out)
          clear hK K
          try simp only [Act.put, List.getElem_toArray, List.getElem_cons_succ, List.getElem_cons_zero, List.setIfInBounds_toArray, List.set_cons_zero, List.set_cons_succ]
          obtain ⟨la, lc, x3, HRUN, HO2, HG⟩ := OwnM.push (famF d) 29 32 56 (.agg #[.int .i64 0, .slice none 0 0, .slice none 0 0]) Tryz.underlying32 Tryz.infoF rfl (by decide) (by decide) HO1.out HZ.out (by have := HS.out; omega) (by rw [HLN.out]; exact HLB.out)
          rw [HLN.out] at HRUN HO2 HG
          refine wpAnyH_ready (rs := [1, 8]) (by kernel_rfl) (by simp) ?_
          refine AllReadyH.cons rfl (fun K hK => ?_) ?_
          · go_simp
            refine hK.out _ _ ?_ (fun hHeld => ?_)
            · first | assumption | exact HSK.out _ (K1.out)
            clear hK K
            try simp only [Act.put, List.getElem_toArray, List.getElem_cons_succ, List.getElem_cons_zero, List.setIfInBounds_toArray, List.set_cons_zero, List.set_cons_succ]
            refine wpAnyH_ready (rs := [8]) (by kernel_rfl) (by simp) ?_
            refine AllReadyH.cons rfl (fun K hK => ?_) ?_
            · go_simp
              refine hK.out _ _ ?_ (fun hHeld => ?_)
              · first | assumption | exact HSK.out _ (kpA K1.out _)
              clear hK K
              try simp only [Act.put, List.getElem_toArray, List.getElem_cons_succ, List.getElem_cons_zero, List.setIfInBounds_toArray, List.set_cons_zero, List.set_cons_succ]
              refine wpAnyH_ready (rs := [9]) (by kernel_rfl) (by simp) ?_
              refine AllReadyH.cons rfl (fun K hK => ?_) ?_
              · refine step_append_ran rfl _ _ 32 32 rfl rfl _ _ (.slice la (k + 1) lc) x3 rfl rfl HRUN.out ?_
                have KG : Hid (Keep (· < po + 1) u1 x3) := hid (Keep.ofGrow HG.out (fun q (hq : q < po + 1) e => by have := (HO1.out.own e).1; omega))
                have K3 : Hid (Keep (· < po) wr x3) := hid (K1.out.trans (KG.out.weak (fun q (hq : q < po) => by show q < po + 1; omega)))
                have BO3 : Hid (Blk x3 po 35 #[.slice oa k oc, .slice ua m.us.length uc]) := hid (BO1.out.keep KG.out (by show _ < _; omega))
                have xo3 := BO3.out.cellF
                have yo3 := BO3.out.frz
                have zo3 := BO3.out.lt
                have hs3 := HG.out.size
                refine hK.out _ _ ?_ (fun hHeld => ?_)
                · first | assumption | exact HSK.out _ (K3.out)
                clear hK K
                try simp only [Act.put, List.getElem_toArray, List.getElem_cons_succ, List.getElem_cons_zero, List.setIfInBounds_toArray, List.set_cons_zero, List.set_cons_succ]
                refine wpAnyH_take (i := 10) (v := ?_) rfl (by kernel_rfl) (by kernel_rfl) (by kernel_rfl) (fun _ _ _ h => h) (Or.inl ⟨by rfl, ?_⟩) (by assumption) ?_
                rotate_left
                · (intro w hSw; (try dsimp only at hSw); go_simp; (try with_reducible rfl))
                try simp only [Act.put, List.getElem_toArray, List.getElem_cons_succ, List.getElem_cons_zero, List.setIfInBounds_toArray, List.set_cons_zero, List.set_cons_succ]
                refine wpAnyH_ready (rs := [11]) (by kernel_rfl) (by simp) ?_
                refine AllReadyH.cons rfl (fun K hK => ?_) ?_
                · go_simp
                  refine hK.out _ _ ?_ (fun hHeld => ?_)
                  · first | assumption | exact HSK.out _ (kpS K3.out (by simp))
                  clear hK K
                  try simp only [Act.put, List.getElem_toArray, List.getElem_cons_succ, List.getElem_cons_zero, List.setIfInBounds_toArray, List.set_cons_zero, List.set_cons_succ]
                  refine wpAnyH_done (by kernel_rfl) ?_ _
                  go_wp2
                  exact ⟨⟨j + 1, k + 1, la, lc, by simp, by omega, hid (by rw [HTK.out, List.length_append, HLN.out]; rfl), hid ((BM.out.keep K3.out (show _ < _ by omega)).other (by first | (simp; done) | (simp; omega) | omega) _), hid ((BR.out.keep K3.out (show _ < _ by omega)).other (by first | (simp; done) | (simp; omega) | omega) _), hid ((BO3.out.set 0 _).is (by simp)), hid (EnsR.go HU.out (f := fun b => w.heap.size + 2 ≤ b ∧ b < po) ((K3.out.weak (fun q hq => hq.2)).trans (Keep.setCell _ _ _ (by first | (simp; done) | (simp; omega) | omega))) (fun _ h => h) (fun _ h => h)), hid (by rw [HTK.out]; exact HO2.out.keepB (famF d) (Keep.setCell _ _ _ (by simp))), hid (Below.trans hb.out (Below.trans (HX1.out.mono hb.out.size) (by have h3 := KG.out.below (B := w.heap.size) (by have := hb.out.size; omega) (fun k hk => by show k < _; omega); exact h3.setCell (by simp; omega) _))), hid (by have := HS.out; simp; omega)⟩, by simp [numAt]; omega⟩
                exact AllReadyH.nil
              exact AllReadyH.nil
            exact AllReadyH.nil
          refine AllReadyH.cons rfl (fun K hK => ?_) ?_
          · go_simp
            refine hK.out _ _ ?_ (fun hHeld => ?_)
            · first | assumption | exact HSK.out _ (kpA K1.out _)
            clear hK K
            try simp only [Act.put, List.getElem_toArray, List.getElem_cons_succ, List.getElem_cons_zero, List.setIfInBounds_toArray, List.set_cons_zero, List.set_cons_succ]
            refine wpAnyH_ready (rs := [1]) (by kernel_rfl) (by simp) ?_
            refine AllReadyH.cons rfl (fun K hK => ?_) ?_
            · go_simp
              refine hK.out _ _ ?_ (fun hHeld => ?_)
              · first | assumption | exact HSK.out _ (kpA K1.out _)
              clear hK K
              try simp only [Act.put, List.getElem_toArray, List.getElem_cons_succ, List.getElem_cons_zero, List.setIfInBounds_toArray, List.set_cons_zero, List.set_cons_succ]
              refine wpAnyH_ready (rs := [9]) (by kernel_rfl) (by simp) ?_
              refine AllReadyH.cons rfl (fun K hK => ?_) ?_
              · refine step_append_ran rfl _ _ 32 32 rfl rfl _ _ (.slice la (k + 1) lc) x3 rfl rfl HRUN.out ?_
                have KG : Hid (Keep (· < po + 1) u1 x3) := hid (Keep.ofGrow HG.out (fun q (hq : q < po + 1) e => by have := (HO1.out.own e).1; omega))
                have K3 : Hid (Keep (· < po) wr x3) := hid (K1.out.trans (KG.out.weak (fun q (hq : q < po) => by show q < po + 1; omega)))
                have BO3 : Hid (Blk x3 po 35 #[.slice oa k oc, .slice ua m.us.length uc]) := hid (BO1.out.keep KG.out (by show _ < _; omega))
                have xo3 := BO3.out.cellF
                have yo3 := BO3.out.frz
                have zo3 := BO3.out.lt
                have hs3 := HG.out.size
                refine hK.out _ _ ?_ (fun hHeld => ?_)
                · first | assumption | exact HSK.out _ (K3.out)
                clear hK K
                try simp only [Act.put, List.getElem_toArray, List.getElem_cons_succ, List.getElem_cons_zero, List.setIfInBounds_toArray, List.set_cons_zero, List.set_cons_succ]
                refine wpAnyH_take (i := 10) (v := ?_) rfl (by kernel_rfl) (by kernel_rfl) (by kernel_rfl) (fun _ _ _ h => h) (Or.inl ⟨by rfl, ?_⟩) (by assumption) ?_
                rotate_left
                · (intro w hSw; (try dsimp only at hSw); go_simp; (try with_reducible rfl))
                try simp only [Act.put, List.getElem_toArray, List.getElem_cons_succ, List.getElem_cons_zero, List.setIfInBounds_toArray, List.set_cons_zero, List.set_cons_succ]
                refine wpAnyH_ready (rs := [11]) (by kernel_rfl) (by simp) ?_
                refine AllReadyH.cons rfl (fun K hK => ?_) ?_
                · go_simp
                  refine hK.out _ _ ?_ (fun hHeld => ?_)
                  · first | assumption | exact HSK.out _ (kpS K3.out (by simp))
                  clear hK K
                  try simp only [Act.put, List.getElem_toArray, List.getElem_cons_succ, List.getElem_cons_zero, List.setIfInBounds_toArray, List.set_cons_zero, List.set_cons_succ]
                  refine wpAnyH_done (by kernel_rfl) ?_ _
                  go_wp2
                  exact ⟨⟨j + 1, k + 1, la, lc, by simp, by omega, hid (by rw [HTK.out, List.length_append, HLN.out]; rfl), hid ((BM.out.keep K3.out (show _ < _ by omega)).other (by first | (simp; done) | (simp; omega) | omega) _), hid ((BR.out.keep K3.out (show _ < _ by omega)).other (by first | (simp; done) | (simp; omega) | omega) _), hid ((BO3.out.set 0 _).is (by simp)), hid (EnsR.go HU.out (f := fun b => w.heap.size + 2 ≤ b ∧ b < po) ((K3.out.weak (fun q hq => hq.2)).trans (Keep.setCell _ _ _ (by first | (simp; done) | (simp; omega) | omega))) (fun _ h => h) (fun _ h => h)), hid (by rw [HTK.out]; exact HO2.out.keepB (famF d) (Keep.setCell _ _ _ (by simp))), hid (Below.trans hb.out (Below.trans (HX1.out.mono hb.out.size) (by have h3 := KG.out.below (B := w.heap.size) (by have := hb.out.size; omega) (fun k hk => by show k < _; omega); exact h3.setCell (by simp; omega) _))), hid (by have := HS.out; simp; omega)⟩, by simp [numAt]; omega⟩
                exact AllReadyH.nil
              exact AllReadyH.nil
            exact AllReadyH.nil
          exact AllReadyH.nil
        exact AllReadyH.nil
    · have k2 : ¬ (j : Int) < (m.fs.length : Int) := by omega
      have ej : j = m.fs.length := by omega
      have e1 : m.fs.take j = m.fs := List.take_of_length_le (by omega)
      rw [e1] at HO HLN
      have HRW := hid (HO.out.row (famF d) (fl_le l1))
      have xr := BR.out.cellF
      have yr := BR.out.frz
      have zr := BR.out.lt
      have HK := hid HLN.out
      clear e1 HO hlt hj ej
      go_wp2
      exact bodyPost_ret (v := .agg #[.slice oa k oc, .slice ua m.us.length uc]) (by simp [results, Tryz.results32, go_sem, xr, yr, zr]) rfl (NewE.mk [.slice oa k oc, .slice ua m.us.length uc] ⟨_, _, rfl, FlsR.go HRW.out (f := (w.heap.size + 2 ≤ ·)) (by with_reducible repeat (first | exact Keep.refl _ _ | refine kpS ?_ (by first | (simp; done) | (simp; omega) | omega) | refine kpA ?_ _ | refine kpD ?_ | refine kpN ?_ _)) (fun b hb => by omega) (fun k hk => by omega), EnsR.go HU.out (f := (w.heap.size + 2 ≤ ·)) (by with_reducible repeat (first | exact Keep.refl _ _ | refine kpS ?_ (by first | (simp; done) | (simp; omega) | omega) | refine kpA ?_ _ | refine kpD ?_ | refine kpN ?_ _)) (fun b hb => hb.1) (fun k hk => by have := hk.1; omega)⟩ (by have := hb.out; exact blBy))
set_option maxHeartbeats 1000000
theorem shT_of {w : World} {x : TV} (h : TyR w x) : ShT x := by
  obtain ⟨a1, c1, e1, -⟩ := rowS_sl h.f
  obtain ⟨a2, c2, e2, -⟩ := rowS_sl h.o
  obtain ⟨a3, c3, e3, -⟩ := rowS_sl h.s
  obtain ⟨a4, c4, e4, -⟩ := rowS_sl h.r
  exact ⟨a1, c1, a2, c2, a3, c3, a4, c4, e1, e2, e3, e4⟩
theorem good_rise {l : List TV} (hg : goodB l = true) {x : TV} (hx : x ∈ l) : Rise x.t.fs ∧ x.t.fs.length ≤ 128 := by
  obtain ⟨k, hk, rfl⟩ := List.mem_iff_getElem.1 hx
  cases he : l[k].t.enum with
  | false => exact good_msg hg hk he
  | true =>
    have h := good_at hg hk
    unfold stepB typB at h
    rw [he] at h
    simp only [Bool.and_eq_true, if_true, decide_eq_true_eq] at h
    have h3 : l[k].t.fs.length = 0 := by have := h.2.2.2.1; omega
    rw [List.eq_nil_of_length_eq_zero h3]
    exact ⟨fun i j _ hj => by simp at hj, by simp⟩
theorem good_refs {l : List TV} (hg : goodB l = true) {x : TV} (hx : x ∈ l) {o : FT} (ho : o ∈ x.t.fs) : 0 ≤ o.ref ∧ o.ref.toNat < l.length := by
  obtain ⟨k, hk, rfl⟩ := List.mem_iff_getElem.1 hx
  have h := good_at hg hk
  unfold stepB typB at h
  simp only [Bool.and_eq_true] at h
  have h2 := h.2.2.2
  split at h2
  · rw [Bool.and_eq_true, decide_eq_true_eq] at h2
    have h3 : l[k].t.fs.length = 0 := by omega
    rw [List.eq_nil_of_length_eq_zero h3] at ho
    exact absurd ho (by simp)
  · unfold msgB at h2
    simp only [Bool.and_eq_true] at h2
    have h3 := List.all_eq_true.1 h2.2.2.1 o ho
    unfold fldB at h3
    simp only [Bool.and_eq_true] at h3
    have h4 := h3.2.1
    unfold refB at h4
    split at h4
    · split at h4
      · rename_i y hy
        rw [Bool.and_eq_true, decide_eq_true_eq] at h4
        exact ⟨h4.1, (List.getElem?_eq_some_iff.1 hy).1⟩
      · simp at h4
    · rw [decide_eq_true_eq] at h4
      rw [h4]
      exact ⟨by omega, by simp; omega⟩
theorem belowT (w : World) (l : List TV) (ta : Option Addr) (tc : Nat) (h : TbR w (.slice ta l.length tc) l) (hg : goodB l = true) (x : TV) (hx : x ∈ l) (Z : Nat → Prop) (d : Nat) (cs : List Value) (f : CF CM) (hf : FldE w Z (MsgE w Z d) cs f) (o : FT) (ho : o ∈ x.t.fs) (hn : o.num = f.num) (y : TV) (hy : l[o.ref.toNat]? = some y) : Calls Tryz.prog 39 #[.agg #[.slice ta l.length tc], .agg (cTV x).toArray, .agg cs.toArray] w fun e w' => e = .returned (.agg (cTV y).toArray) ∧ Below w.heap.size w w' := by
  obtain ⟨ka, kc, va, vc, rfl, -⟩ := fld_open hf
  have hyl : o.ref.toNat < l.length := (List.getElem?_eq_some_iff.1 hy).1
  have hye : l[o.ref.toNat] = y := (List.getElem?_eq_some_iff.1 hy).2
  have TX := h.ty x hx
  have TYY := h.ty y (by rw [← hye]; exact List.getElem_mem hyl)
  obtain ⟨ta1, tc1, ta2, tc2, ta3, tc3, ta4, tc4, e1, e2, e3, e4⟩ := shT_of TX
  obtain ⟨sa1, sc1, sa2, sc2, sa3, sc3, sa4, sc4, g1, g2, g3, g4⟩ := shT_of TYY
  have ecx : cTV x = [.string (strOfNums x.t.name), .bool x.t.enum, .slice ta1 x.t.fs.length tc1, .slice ta2 x.t.os.length tc2, .slice ta3 x.t.ss.length tc3, .slice ta4 x.t.rs.length tc4] := by unfold cTV; rw [e1, e2, e3, e4]
  have ecy : cTV y = [.string (strOfNums y.t.name), .bool y.t.enum, .slice sa1 y.t.fs.length sc1, .slice sa2 y.t.os.length sc2, .slice sa3 y.t.ss.length sc3, .slice sa4 y.t.rs.length sc4] := by unfold cTV; rw [g1, g2, g3, g4]
  obtain ⟨k, hk, hke⟩ := List.mem_iff_getElem.1 ho
  have HFO := hid fun W (hW : Below w.heap.size w W) => fieldOfOk x.t.fs f.num W ta1 tc1 (by rw [← e1]; exact (TX.kept hW).f) (good_rise hg hx).1 (good_rise hg hx).2 k hk (by rw [hke]; exact hn)
  rw [hke] at HFO
  obtain ⟨r0, r1⟩ := good_refs hg hx ho
  obtain ⟨j, hj⟩ := Int.eq_ofNat_of_zero_le r0
  have ht : o.ref.toNat = j := by omega
  rw [ht] at hy
  clear hye hyl
  have hyl : j < l.length := (List.getElem?_eq_some_iff.1 hy).1
  have hye : l[j] = y := (List.getElem?_eq_some_iff.1 hy).2
  obtain ⟨tb, tof, rfl, hbl, c0, c1, c2, c3, c4, c5⟩ := row6 h.row hyl
  rw [hye] at c0 c1 c2 c3 c4 c5
  rw [g1] at c2
  rw [g2] at c3
  rw [g3] at c4
  rw [g4] at c5
  rw [hj] at HFO
  rw [ecx, ecy]
  have k1 : (j : Int) < (l.length : Int) := by omega
  obtain ⟨_, _, el, l63⟩ := rowS_sl h.row
  clear el
  have m1 : (l.length : Int) ≤ 9223372036854775807 := by omega
  clear h hf TX TYY e1 e2 e3 e4 g1 g2 g3 g4 ecx ecy hke ho hy hye r0 r1 hx hg hn ht hj
  generalize o.ref = rf at *
  go_enter Tryz.func39, Tryz.ntmps39
  go_wp2_with fail
  refine (HFO.out _ (by exact blBy)).mono ?_
  rintro e w1 ⟨rfl, hb1⟩
  have B3 : Blk w1 w.heap.size 73 #[.slice (some ⟨tb, tof, none⟩) l.length tc] := ((((Blk.new _ _ _).kept (below_alloc _)).kept (below_alloc _)).kept (below_alloc _)).kept hb1
  have Br : Blk w1 (w.heap.size + 1 + 1 + 1) 71 #[.string ⟨#[]⟩, .bool false, .slice none 0 0, .slice none 0 0, .slice none 0 0, .slice none 0 0] := (Blk.newAt (by simp)).kept hb1
  have hbz : Hid (Below w.heap.size w w1) := hid (bl_then (by exact blBy) hb1)
  have hs1 : w.heap.size + 4 ≤ w1.heap.size := by have := hb1.size; simpa using this
  clear hb1 HFO
  replace c0 := cell_below c0 hbz.out
  replace c1 := cell_below c1 hbz.out
  replace c2 := cell_below c2 hbz.out
  replace c3 := cell_below c3 hbz.out
  replace c4 := cell_below c4 hbz.out
  replace c5 := cell_below c5 hbz.out
  have hne : tb ≠ w.heap.size + 1 + 1 + 1 := by omega
  have hbl2 : tb < w1.heap.size := World.block_lt_of_cell? _ _ c0
  have x3 := B3.cellF
  have z3 := B3.lt
  have xr := Br.cellF
  have yr := Br.frz
  have zr := Br.lt
  clear hbl
  go_wp2
  exact bodyPost_ret (v := .agg #[.string (strOfNums y.t.name), .bool y.t.enum, .slice sa1 y.t.fs.length sc1, .slice sa2 y.t.os.length sc2, .slice sa3 y.t.ss.length sc3, .slice sa4 y.t.rs.length sc4]) (by simp [results, Tryz.results39, go_sem, xr, zr, yr]) rfl ⟨rfl, by have := hbz.out; exact blBy⟩
theorem msgAtOk (w : World) (l : List TV) (ta : Option Addr) (tc : Nat) (h : TbR w (.slice ta l.length tc) l) (hk : ∀ x ∈ l, OkV x) (m : Int) (hm : w.cell? ⟨0, 0, none⟩ = some (.int .i64 m)) (k : Nat) (hkl : k < l.length) (hg : goodB l = true) (he : l[k].t.enum = false) : Calls Tryz.prog 43 #[.agg #[.slice ta l.length tc], .int .i64 (k : Int)] w fun e w' => e = .returned (.tuple #[.agg #[.string (strOfNums l[k].t.name), .bool false, l[k].f, l[k].o, l[k].s, l[k].r], .int .i64 0]) ∧ Below w.heap.size w w' := by
  obtain ⟨_, _, e, hn⟩ := rowS_sl h.row
  clear e
  have h63 : (l.length : Int) ≤ 9223372036854775807 := by omega
  have HTY := hid (h.ty _ (List.getElem_mem hkl))
  have HGC : Hid (∀ W, Below w.heap.size w W → Calls Tryz.prog 91 #[.agg #[.slice ta l.length tc]] W fun e w' => e = .returned (.bool true) ∧ Below W.heap.size W w') := hid fun W hW => by
    have := goodT W l ta tc (h.kept hW) hk m (cell_below hm hW)
    rw [hg] at this
    exact this
  obtain ⟨tb, tof, rfl, hbl, c0, c1, c2, c3, c4, c5⟩ := row6 h.row hkl
  rw [he] at c1
  have r2 : ((k : Int) < 0) = False := eq_false (by omega)
  have r4 : ((l.length : Int) ≤ (k : Int)) = False := eq_false (by omega)
  have r5 : (k : Int) < (l.length : Int) := by omega
  clear h hk hm hg he
  generalize l[k] = x at *
  obtain ⟨t, f, o, s, r⟩ := x
  obtain ⟨fa, fc, ef, -⟩ := rowS_sl HTY.out.f
  obtain ⟨oa, oc, eo, -⟩ := rowS_sl HTY.out.o
  obtain ⟨sa, sc, es, -⟩ := rowS_sl HTY.out.s
  obtain ⟨ra, rc, er, -⟩ := rowS_sl HTY.out.r
  dsimp only at ef eo es er
  subst ef eo es er
  dsimp only at c0 c1 c2 c3 c4 c5
  dsimp only
  go_enter Tryz.func43, Tryz.ntmps43
  go_wp2_with fail
  refine (HGC.out _ (by exact blBy)).mono ?_
  rintro e w1 ⟨rfl, hb1⟩
  have Ba : Blk w1 w.heap.size 46 #[.slice (some ⟨tb, tof, none⟩) l.length tc] := ((Blk.new _ _ _).kept (below_alloc _)).kept hb1
  have Br : Blk w1 (w.heap.size + 1) 71 #[.string ⟨#[]⟩, .bool false, .slice none 0 0, .slice none 0 0, .slice none 0 0, .slice none 0 0] := (Blk.newAt (by simp)).kept hb1
  replace hb1 : Hid (Below w.heap.size w w1) := hid (bl_then (by exact blBy) hb1)
  have d0 := cell_below c0 hb1.out
  have d1 := cell_below c1 hb1.out
  have d2 := cell_below c2 hb1.out
  have d3 := cell_below c3 hb1.out
  have d4 := cell_below c4 hb1.out
  have d5 := cell_below c5 hb1.out
  have hbl1 : tb < w1.heap.size := World.block_lt_of_cell? _ _ d0
  have hne : tb ≠ w.heap.size + 1 := by omega
  clear c0 c1 c2 c3 c4 c5
  have xa := Ba.cellF
  have za := Ba.lt
  have xr := Br.cellF
  have yr := Br.frz
  have zr := Br.lt
  go_wp2
  exact bodyPost_ret (v := .tuple #[.agg #[.string (strOfNums t.name), .bool false, .slice fa t.fs.length fc, .slice oa t.os.length oc, .slice sa t.ss.length sc, .slice ra t.rs.length rc], .int .i64 0]) (by simp [results, Tryz.results43, go_sem, xr, zr, yr]) rfl ⟨rfl, by have := hb1.out; exact blBy⟩
theorem msgAtNo (w : World) (l : List TV) (ta : Option Addr) (tc : Nat) (h : TbR w (.slice ta l.length tc) l) (hk : ∀ x ∈ l, OkV x) (m : Int) (hm : w.cell? ⟨0, 0, none⟩ = some (.int .i64 m)) (idx : Int) (hno : isB l idx false = false) : Calls Tryz.prog 43 #[.agg #[.slice ta l.length tc], .int .i64 idx] w fun e w' => e = .returned (.tuple #[.agg #[.string ⟨#[]⟩, .bool false, .slice none 0 0, .slice none 0 0, .slice none 0 0, .slice none 0 0], .int .i64 18]) ∧ Below w.heap.size w w' := by
  obtain ⟨_, _, e, hn⟩ := rowS_sl h.row
  clear e
  have h63 : (l.length : Int) ≤ 9223372036854775807 := by omega
  have HGC : Hid (∀ W, Below w.heap.size w W → Calls Tryz.prog 91 #[.agg #[.slice ta l.length tc]] W fun e w' => e = .returned (.bool (goodB l)) ∧ Below W.heap.size W w') := hid fun W hW => goodT W l ta tc (h.kept hW) hk m (cell_below hm hW)
  unfold isB at hno
  cases q : goodB l with
  | false =>
    rw [q] at HGC
    clear h hk hm hno
    go_enter Tryz.func43, Tryz.ntmps43
    go_wp2_with fail
    refine (HGC.out _ (by exact blBy)).mono ?_
    rintro e w1 ⟨rfl, hb1⟩
    have Ba : Blk w1 w.heap.size 46 #[.slice ta l.length tc] := ((Blk.new _ _ _).kept (below_alloc _)).kept hb1
    have Br : Blk w1 (w.heap.size + 1) 71 #[.string ⟨#[]⟩, .bool false, .slice none 0 0, .slice none 0 0, .slice none 0 0, .slice none 0 0] := (Blk.newAt (by simp)).kept hb1
    replace hb1 : Hid (Below w.heap.size w w1) := hid (bl_then (by exact blBy) hb1)
    have xa := Ba.cellF
    have ya := Ba.frz
    have za := Ba.lt
    have xr := Br.cellF
    have yr := Br.frz
    have zr := Br.lt
    go_wp2
    exact bodyPost_ret (v := .tuple #[.agg #[.string ⟨#[]⟩, .bool false, .slice none 0 0, .slice none 0 0, .slice none 0 0, .slice none 0 0], .int .i64 18]) (by simp [results, Tryz.results43, go_sem, xr, zr, yr]) rfl ⟨rfl, by have := hb1.out; exact blBy⟩
  | true =>
  rw [q] at HGC hno
  by_cases r1 : idx < 0
  case pos =>
    have r2 : (idx < 0) = True := eq_true r1
    clear h hk hm hno r1
    go_enter Tryz.func43, Tryz.ntmps43
    go_wp2_with fail
    refine (HGC.out _ (by exact blBy)).mono ?_
    rintro e w1 ⟨rfl, hb1⟩
    have Ba : Blk w1 w.heap.size 46 #[.slice ta l.length tc] := ((Blk.new _ _ _).kept (below_alloc _)).kept hb1
    have Br : Blk w1 (w.heap.size + 1) 71 #[.string ⟨#[]⟩, .bool false, .slice none 0 0, .slice none 0 0, .slice none 0 0, .slice none 0 0] := (Blk.newAt (by simp)).kept hb1
    replace hb1 : Hid (Below w.heap.size w w1) := hid (bl_then (by exact blBy) hb1)
    have xa := Ba.cellF
    have ya := Ba.frz
    have za := Ba.lt
    have xr := Br.cellF
    have yr := Br.frz
    have zr := Br.lt
    go_wp2
    exact bodyPost_ret (v := .tuple #[.agg #[.string ⟨#[]⟩, .bool false, .slice none 0 0, .slice none 0 0, .slice none 0 0, .slice none 0 0], .int .i64 18]) (by simp [results, Tryz.results43, go_sem, xr, zr, yr]) rfl ⟨rfl, by have := hb1.out; exact blBy⟩
  by_cases r3 : (l.length : Int) ≤ idx
  case pos =>
    have r2 : (idx < 0) = False := eq_false r1
    have r4 : ((l.length : Int) ≤ idx) = True := eq_true r3
    clear h hk hm hno r1 r3
    go_enter Tryz.func43, Tryz.ntmps43
    go_wp2_with fail
    refine (HGC.out _ (by exact blBy)).mono ?_
    rintro e w1 ⟨rfl, hb1⟩
    have Ba : Blk w1 w.heap.size 46 #[.slice ta l.length tc] := ((Blk.new _ _ _).kept (below_alloc _)).kept hb1
    have Br : Blk w1 (w.heap.size + 1) 71 #[.string ⟨#[]⟩, .bool false, .slice none 0 0, .slice none 0 0, .slice none 0 0, .slice none 0 0] := (Blk.newAt (by simp)).kept hb1
    replace hb1 : Hid (Below w.heap.size w w1) := hid (bl_then (by exact blBy) hb1)
    have xa := Ba.cellF
    have ya := Ba.frz
    have za := Ba.lt
    have xr := Br.cellF
    have yr := Br.frz
    have zr := Br.lt
    go_wp2
    exact bodyPost_ret (v := .tuple #[.agg #[.string ⟨#[]⟩, .bool false, .slice none 0 0, .slice none 0 0, .slice none 0 0, .slice none 0 0], .int .i64 18]) (by simp [results, Tryz.results43, go_sem, xr, zr, yr]) rfl ⟨rfl, by have := hb1.out; exact blBy⟩
  obtain ⟨k, rfl⟩ := Int.eq_ofNat_of_zero_le (show 0 ≤ idx by omega)
  have hkl : k < l.length := by omega
  obtain ⟨tb, tof, rfl, hbl, -, c1, -⟩ := row6 h.row hkl
  have hne : l[k].t.enum = true := by simpa [hkl] using hno
  have r2 : ((k : Int) < 0) = False := eq_false r1
  have r4 : ((l.length : Int) ≤ (k : Int)) = False := eq_false r3
  have r5 : (k : Int) < (l.length : Int) := by omega
  rw [hne] at c1
  clear h hk hm hno r1 r3 hne
  go_enter Tryz.func43, Tryz.ntmps43
  go_wp2_with fail
  refine (HGC.out _ (by exact blBy)).mono ?_
  rintro e w1 ⟨rfl, hb1⟩
  have Ba : Blk w1 w.heap.size 46 #[.slice (some ⟨tb, tof, none⟩) l.length tc] := ((Blk.new _ _ _).kept (below_alloc _)).kept hb1
  have Br : Blk w1 (w.heap.size + 1) 71 #[.string ⟨#[]⟩, .bool false, .slice none 0 0, .slice none 0 0, .slice none 0 0, .slice none 0 0] := (Blk.newAt (by simp)).kept hb1
  replace hb1 : Hid (Below w.heap.size w w1) := hid (bl_then (by exact blBy) hb1)
  have d1 := cell_below c1 hb1.out
  have hbl1 : tb < w1.heap.size := World.block_lt_of_cell? _ _ d1
  clear c1
  have xa := Ba.cellF
  have ya := Ba.frz
  have za := Ba.lt
  have xr := Br.cellF
  have yr := Br.frz
  have zr := Br.lt
  go_wp2
  exact bodyPost_ret (v := .tuple #[.agg #[.string ⟨#[]⟩, .bool false, .slice none 0 0, .slice none 0 0, .slice none 0 0, .slice none 0 0], .int .i64 18]) (by simp [results, Tryz.results43, go_sem, xr, zr, yr]) rfl ⟨rfl, by have := hb1.out; exact blBy⟩
def riseM (l : List (CF CM)) : Bool := (List.range (l.length - 1)).all fun i => match l[i]?, l[i + 1]? with | some a, some b => decide (a.num < b.num) | _, _ => true
def riseS (l : List (CF CM)) (j : Nat) : Bool := (List.range' j (l.length - 1 - j)).all fun i => match l[i]?, l[i + 1]? with | some a, some b => decide (a.num < b.num) | _, _ => true
theorem riseS_zero (l : List (CF CM)) : riseM l = riseS l 0 := by unfold riseM riseS; rw [List.range_eq_range']; rfl
theorem riseS_step (l : List (CF CM)) (j : Nat) (h : j + 1 < l.length) : riseS l j = (decide (l[j].num < l[j + 1].num) && riseS l (j + 1)) := by
  unfold riseS
  rw [show l.length - 1 - j = (l.length - 1 - (j + 1)) + 1 by omega, List.range'_succ, List.all_cons]
  simp [h, show j < l.length by omega]
theorem riseS_end (l : List (CF CM)) (j : Nat) (h : l.length ≤ j + 1) : riseS l j = true := by
  unfold riseS
  rw [show l.length - 1 - j = 0 by omega]
  rfl
theorem doRiseM (w : World) (Z : Nat → Prop) (d : Nat) (xs : List (CF CM)) (a : Option Addr) (c : Nat) (h : FlsR w Z d (.slice a xs.length c) xs) : Calls Tryz.prog 128 #[.slice a xs.length c] w fun e w' => e = .returned (.bool (riseM xs)) ∧ Below w.heap.size w w' := by
  obtain ⟨_, _, e1, l1⟩ := RowM.sl h
  clear e1
  have m1 : (xs.length : Int) ≤ 9223372036854775807 := by omega
  have H1 := hid h
  clear h
  go_enter Tryz.func128, Tryz.ntmps128
  go_wp2
  go_loopw [3] (fun s3 wr => ∃ j : Nat, s3 = .int .i64 ((j : Int) + 1) ∧ (j ≤ xs.length) ∧ Hid (riseM xs = riseS xs j) ∧ Hid (Below w.heap.size w wr)) (fun s3 wr => xs.length + 1 - numAt wr s3)
  case atStart => exact ⟨0, rfl, by omega, hid (riseS_zero xs), hid (Below.refl _ _)⟩
  case round =>
    obtain ⟨j, rfl, hj, HA, hb⟩ := hrel
    by_cases hlt : j + 1 < xs.length
    · have k2 : (j : Int) + 1 < (xs.length : Int) := by omega
      have k3 : (j : Int) + 1 - 1 = (j : Int) := by omega
      have k4 : (j : Int) < (xs.length : Int) := by omega
      obtain ⟨b1, o1, ka1, kc1, va1, vc1, rfl, -, hb1, c0, -, -, -⟩ := fls_at (H1.out.kept hb.out) (show j < xs.length by omega)
      obtain ⟨b2, o2, ka2, kc2, va2, vc2, e2, -, -, d0, -, -, -⟩ := fls_at (H1.out.kept hb.out) hlt
      cases e2
      have HST := hid (riseS_step xs j hlt)
      generalize xs[j].num = p at *
      generalize xs[j + 1].num = q at *
      have e5 : ((j : Int) + 1).toNat = j + 1 := by omega
      by_cases hq : p < q
      · have hq2 : ¬ q ≤ p := by omega
        have HQ : Hid (riseM xs = riseS xs (j + 1)) := hid (by rw [HA.out, HST.out]; simp [hq])
        go_wp2
        go_quiet (fail)
        go_wp2
        exact ⟨⟨j + 1, by simp, by omega, HQ, hid (by have := hb.out; exact blBy)⟩, by simp [numAt]; omega⟩
      · have hq2 : q ≤ p := by omega
        have HQ : Hid (riseM xs = false) := hid (by rw [HA.out, HST.out]; simp [hq])
        go_wp2
        go_quiet (fail)
        go_wp2
        go_ret
        exact ⟨ret_bool HQ.out.symm, by have := hb.out; exact blBy⟩
    · have k2 : ¬ (j : Int) + 1 < (xs.length : Int) := by omega
      have HX : Hid (riseM xs = true) := hid (by rw [HA.out, riseS_end xs j (by omega)])
      go_wp2
      go_ret
      exact ⟨ret_bool HX.out.symm, hb.out⟩
def shapeB (lab : Int) (f : CF CM) : Bool := if lab = 2 ∨ lab = 3 then decide (f.ks.length = 0) else if lab = 5 then decide (f.ks.length = f.vs.length) else decide (f.ks.length = 0) && decide (f.vs.length = 1)
theorem hasShapeM (w : World) (Z : Nat → Prop) (d : Nat) (lab : Int) (cs : List Value) (f : CF CM) (hf : FldE w Z (MsgE w Z d) cs f) : Calls Tryz.prog 156 #[.int .i64 lab, .agg cs.toArray] w fun e w' => e = .returned (.bool (shapeB lab f)) ∧ Below w.heap.size w w' := by
  obtain ⟨ka, kc, va, vc, rfl, -, -, l1, l2, -⟩ := fld_open hf
  clear hf
  have m1 : (f.ks.length : Int) ≤ 9223372036854775807 := by omega
  have m2 : (f.vs.length : Int) ≤ 9223372036854775807 := by omega
  have HX0 : Hid (shapeB lab f = if lab = 2 ∨ lab = 3 then decide (f.ks.length = 0) else if lab = 5 then decide (f.ks.length = f.vs.length) else decide (f.ks.length = 0) && decide (f.vs.length = 1)) := hid rfl
  by_cases h2 : lab = 2
  · subst h2
    have HX : Hid (shapeB 2 f = ((f.ks.length : Int) == 0)) := hid (by rw [HX0.out, if_pos (.inl rfl), Bool.eq_iff_iff]; simp)
    go_enter Tryz.func156, Tryz.ntmps156
    go_wp2
    go_ret
    exact ⟨ret_bool HX.out.symm, by exact blBy⟩
  by_cases h3 : lab = 3
  · subst h3
    have HX : Hid (shapeB 3 f = ((f.ks.length : Int) == 0)) := hid (by rw [HX0.out, if_pos (.inr rfl), Bool.eq_iff_iff]; simp)
    go_enter Tryz.func156, Tryz.ntmps156
    go_wp2
    go_ret
    exact ⟨ret_bool HX.out.symm, by exact blBy⟩
  by_cases h5 : lab = 5
  · subst h5
    have HX : Hid (shapeB 5 f = ((f.ks.length : Int) == (f.vs.length : Int))) := hid (by rw [HX0.out, if_neg (by decide), if_pos rfl, Bool.eq_iff_iff]; simp; omega)
    go_enter Tryz.func156, Tryz.ntmps156
    go_wp2
    go_ret
    exact ⟨ret_bool HX.out.symm, by exact blBy⟩
  have q2 : (lab == 2) = false := by simpa using h2
  have q3 : (lab == 3) = false := by simpa using h3
  have q5 : (lab == 5) = false := by simpa using h5
  by_cases h0 : f.ks.length = 0
  · have q0 : ((f.ks.length : Int) == 0) = true := by simp [h0]
    have HX : Hid (shapeB lab f = ((f.vs.length : Int) == 1)) := hid (by rw [HX0.out, if_neg (by omega), if_neg h5, Bool.eq_iff_iff]; simp [h0]; omega)
    clear h0
    go_enter Tryz.func156, Tryz.ntmps156
    go_wp2
    go_ret
    exact ⟨ret_bool HX.out.symm, by exact blBy⟩
  · have q0 : ((f.ks.length : Int) == 0) = false := by simpa using h0
    have HX : Hid (shapeB lab f = false) := hid (by rw [HX0.out, if_neg (by omega), if_neg h5]; simp [h0])
    clear h0
    go_enter Tryz.func156, Tryz.ntmps156
    go_wp2
    go_ret
    exact ⟨ret_bool HX.out.symm, by exact blBy⟩
def ownF (fs : List FT) (n : Int) : FT := (fs.find? (fun o => o.num == n)).getD ftZ
def hasF (fs : List FT) (n : Int) : Bool := (fs.find? (fun o => o.num == n)).isSome
theorem ownF_in {fs : List FT} {n : Int} (h : ownF fs n ≠ ftZ) : ownF fs n ∈ fs := by
  unfold ownF at *
  cases hq : fs.find? (fun o => o.num == n) with
  | none => rw [hq] at h; exact absurd rfl h
  | some o => exact List.mem_of_find?_eq_some hq
def tFT (o : FT) (b : Bool) : Value := .tuple #[.agg #[.string (strOfNums o.name), .int .i64 o.num, .int .i64 o.kind, .int .i64 o.ref, .int .i64 o.lab, .int .i64 o.one, .int .i64 o.key], .bool b]
theorem findT (fs : List FT) (n : Int) (w : World) (a : Option Addr) (c : Nat) (h : RowS w AnyZ 7 (.slice a fs.length c) fs.length (fs.flatMap cFT)) (hr : Rise fs) (hl : fs.length ≤ 128) : Calls Tryz.prog 89 #[.slice a fs.length c, .int .i64 n] w fun e w' => e = .returned (tFT (ownF fs n) (hasF fs n)) ∧ Below w.heap.size w w' := by
  unfold ownF hasF
  cases hq : fs.find? (fun o => o.num == n) with
  | none => exact fieldOfNo fs n w a c h hr hl (fun f hf => by have := List.find?_eq_none.1 hq f hf; simpa using this)
  | some o =>
    obtain ⟨k, hk, hke⟩ := List.mem_iff_getElem.1 (List.mem_of_find?_eq_some hq)
    have := List.find?_some hq
    have h2 := fieldOfOk fs n w a c h hr hl k hk (by rw [hke]; simpa using this)
    rw [hke] at h2
    exact h2
def takeA (T : Nat → Bool) : Array Value := ((List.range 128).map fun i => Value.bool (T i)).toArray
theorem takeA_at (T : Nat → Bool) {k : Nat} (hk : k < 128) : (takeA T)[k]? = some (.bool (T k)) := by simp [takeA, hk]
theorem takeA_set (T : Nat → Bool) (k : Nat) : (takeA T).setIfInBounds k (.bool true) = takeA (fun i => i == k || T i) := by
  apply Array.ext_getElem?
  intro i
  rw [Array.getElem?_setIfInBounds]
  unfold takeA
  by_cases hi : i < 128
  · by_cases hk : k = i
    · subst hk; simp [hi]
    · have : (i == k) = false := by simp; omega
      simp [hi, hk, this]
  · by_cases hk : k = i
    · subst hk; simp [hi]
    · simp [hk, hi]
def singleT (fs : List FT) : List (CF CM) → (Nat → Bool) → Bool
  | [], _ => true
  | f :: r, T => if (ownF fs f.num).lab = 4 then (if T (ownF fs f.num).one.toNat then false else singleT fs r (fun i => i == (ownF fs f.num).one.toNat || T i)) else singleT fs r T
def singleB (fs : List FT) (l : List (CF CM)) : Bool := singleT fs l (fun _ => false)
theorem areSingleM (w : World) (x : TV) (hx : TyR w x) (hr : Rise x.t.fs) (hl : x.t.fs.length ≤ 128) (ho : ∀ o ∈ x.t.fs, o.lab = 4 → 0 ≤ o.one ∧ o.one < 128) (Z : Nat → Prop) (d : Nat) (xs : List (CF CM)) (a : Option Addr) (c : Nat) (h : FlsR w Z d (.slice a xs.length c) xs) : Calls Tryz.prog 130 #[.agg (cTV x).toArray, .slice a xs.length c] w fun e w' => e = .returned (.bool (singleB x.t.fs xs)) ∧ Below w.heap.size w w' := by
  obtain ⟨_, _, e1, l1⟩ := RowM.sl h
  clear e1
  have m1 : (xs.length : Int) ≤ 9223372036854775807 := by omega
  have H1 := hid h
  obtain ⟨ta1, tc1, ta2, tc2, ta3, tc3, ta4, tc4, e1, e2, e3, e4⟩ := shT_of hx
  have ecx : cTV x = [.string (strOfNums x.t.name), .bool x.t.enum, .slice ta1 x.t.fs.length tc1, .slice ta2 x.t.os.length tc2, .slice ta3 x.t.ss.length tc3, .slice ta4 x.t.rs.length tc4] := by unfold cTV; rw [e1, e2, e3, e4]
  rw [ecx]
  have HFO := hid fun W (hW : Below w.heap.size w W) (n : Int) => findT x.t.fs n W ta1 tc1 (by rw [← e1]; exact (hx.kept hW).f) hr hl
  have HO := hid ho
  clear h hx ho e1 e2 e3 e4 ecx hr
  go_enter Tryz.func130, Tryz.ntmps130
  go_wp2
  go_loopw [12] (fun s12 wr => ∃ (j : Nat) (T : Nat → Bool), s12 = .int .i64 j ∧ j ≤ xs.length ∧ Hid (singleB x.t.fs xs = singleT x.t.fs (xs.drop j) T) ∧ Hid (Below w.heap.size w wr) ∧ Hid (Blk wr w.heap.size 71 #[.string (strOfNums x.t.name), .bool x.t.enum, .slice ta1 x.t.fs.length tc1, .slice ta2 x.t.os.length tc2, .slice ta3 x.t.ss.length tc3, .slice ta4 x.t.rs.length tc4]) ∧ Hid (Blk wr (w.heap.size + 1) 181 (takeA T))) (fun s12 wr => xs.length - numAt wr s12)
  case atStart => exact ⟨0, fun _ => false, rfl, by omega, hid rfl, hid (by exact blBy), hid ((Blk.new _ _ _).kept (below_alloc _)), hid ((Blk.newAt (by simp)).is (by kernel_rfl))⟩
  case round =>
    obtain ⟨j, T, rfl, hj, HA, hb, HB2, HB5⟩ := hrel
    by_cases hlt : j < xs.length
    · have k2 : (j : Int) < (xs.length : Int) := by omega
      obtain ⟨b1, o1, ka1, kc1, va1, vc1, rfl, -, hb1, c0, c1, c2, -⟩ := fls_at (H1.out.kept hb.out) hlt
      have HST : Hid (singleT x.t.fs (xs.drop j) T = if (ownF x.t.fs xs[j].num).lab = 4 then (if T (ownF x.t.fs xs[j].num).one.toNat then false else singleT x.t.fs (xs.drop (j + 1)) (fun i => i == (ownF x.t.fs xs[j].num).one.toNat || T i)) else singleT x.t.fs (xs.drop (j + 1)) T) := hid (by rw [List.drop_eq_getElem_cons hlt, singleT])
      generalize xs[j] = f at *
      have HFJ := hid fun W (hW : Below w.heap.size w W) => HFO.out W hW f.num
      have HOJ : Hid ((ownF x.t.fs f.num).lab = 4 → 0 ≤ (ownF x.t.fs f.num).one ∧ (ownF x.t.fs f.num).one < 128) := hid (fun hq => HO.out _ (ownF_in (fun e => by rw [e] at hq; exact absurd hq (by decide))) hq)
      generalize ownF x.t.fs f.num = o at *
      generalize hasF x.t.fs f.num = ok at *
      have x2 := HB2.out.cellF
      have z2 := HB2.out.lt
      go_wp2_with fail
      refine (HFJ.out _ (by have := hb.out; exact blBy)).mono ?_
      rintro e w1 ⟨rfl, hbx⟩
      unfold tFT
      have C2 := hid ((HB2.out.kept (below_alloc _)).kept hbx)
      have C5 := hid ((HB5.out.kept (below_alloc _)).kept hbx)
      have hbw : Hid (Below w.heap.size w w1) := hid (bl_then (by have := hb.out; exact blBy) hbx)
      clear hbx c0 c1 c2 x2 z2 HB2 HB5 hb hb1
      by_cases hq : o.lab = 4
      · obtain ⟨r0, r1⟩ := HOJ.out hq
        obtain ⟨k, hk⟩ := Int.eq_ofNat_of_zero_le r0
        have hk2 : k < 128 := by omega
        have ht : o.one.toNat = k := by omega
        rw [ht, if_pos hq] at HST
        have kn : (o.lab != 4) = false := by simp [hq]
        generalize o.one = one at *
        subst hk
        have k3 : (k : Int) < 128 := by omega
        have x5 : w1.cell? ⟨w.heap.size + 1, k, none⟩ = some (.bool (T k)) := C5.out.cell k _ (takeA_at T hk2)
        have y5 := C5.out.frz
        have z5 := C5.out.lt
        clear r0 r1 hq ht HOJ
        cases hT : T k with
        | true =>
          rw [hT, if_pos rfl] at HST
          rw [hT] at x5
          have HX : Hid (singleB x.t.fs xs = false) := hid (by rw [HA.out, HST.out])
          go_wp2
          go_ret
          exact ⟨ret_bool HX.out.symm, by have := hbw.out; exact blBy⟩
        | false =>
          rw [hT, if_neg (by decide)] at HST
          rw [hT] at x5
          go_wp2
          refine ⟨⟨j + 1, fun i => i == k || T i, by simp, by omega, hid (by rw [HA.out, HST.out]), hid (by have := hbw.out; exact blBy), hid ?_, hid ?_⟩, by simp [numAt]; omega⟩
          · exact Blk.kept (show Blk _ _ _ _ from (Below.heap_setCell _ _ _ _ (by simp)).trans C2.out) (below_alloc _)
          · exact ((C5.out.set k (.bool true)).is (takeA_set T k)).kept (below_alloc _)
      · have kn : (o.lab != 4) = true := by simpa using hq
        rw [if_neg hq] at HST
        go_wp2
        exact ⟨⟨j + 1, T, by simp, by omega, hid (by rw [HA.out, HST.out]), hid (by have := hbw.out; exact blBy), hid (C2.out.kept (by exact blBy)), hid (C5.out.kept (by exact blBy))⟩, by simp [numAt]; omega⟩
    · have k2 : ¬ (j : Int) < (xs.length : Int) := by omega
      have HX : Hid (singleB x.t.fs xs = true) := hid (by rw [HA.out, List.drop_of_length_le (by omega)]; rfl)
      go_wp2
      go_ret
      exact ⟨ret_bool HX.out.symm, hb.out⟩
end Go.Proofs.YtgephggcgopfgaaGreatDoor
