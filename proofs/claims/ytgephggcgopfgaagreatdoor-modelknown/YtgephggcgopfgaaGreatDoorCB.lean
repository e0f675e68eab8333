/-
  The document's Copy of a message, where that of its fields is known.
-/
import Derived.Test.YtgephggcgopfgaaGreatDoorCAP
namespace Go.Proofs.YtgephggcgopfgaaGreatDoor
open Go.RowKit
set_option maxRecDepth 1000000
set_option linter.unusedVariables false
set_option linter.unusedSimpArgs false
set_option maxHeartbeats 4000000
def CfAt (d : Nat) : Prop := ∀ (w : World) (Z : Nat → Prop) (cs : List Value) (x : CF CM), FldE w Z (MsgE w Z d) cs x → Calls Tryz.prog 68 #[.agg cs.toArray] w (NewE (FmF d) w x)
def CdAt (d : Nat) : Prop := ∀ (w : World) (Z : Nat → Prop) (cs : List Value) (m : CM), MsgE w Z d cs m → Calls Tryz.prog 67 #[.agg cs.toArray] w (NewE (FmM d) w m)
theorem FlsR.old {w : World} {Z : Nat → Prop} {d : Nat} {v : Value} {xs : List (CF CM)} (h : FlsR w Z d v xs) : FlsR w (fun b => Z b ∧ b < w.heap.size) d v xs := RowM.old (by decide) h (fun cs x _ hx => (famF d).old hx)
theorem EnsR.old {w : World} {Z : Nat → Prop} {v : Value} {xs : List CE} (h : EnsR w Z v xs) : EnsR w (fun b => Z b ∧ b < w.heap.size) v xs := RowM.old (by decide) h (fun cs x _ hx => famE.old hx)
theorem copyStepD (d : Nat) (HC : CfAt d) : CdAt (d + 1) := fun w Z cs m h => by
  obtain ⟨ka, kc, va, vc, rfl, g, q, l1, l2⟩ := msg_open (MsgE.old (d + 1) _ _ h)
  have m1 : (m.fs.length : Int) ≤ 9223372036854775807 := by omega
  have m2 : (m.us.length : Int) ≤ 9223372036854775807 := by omega
  have G := hid g
  have Q := hid q
  have HCC := hid HC
  clear h g q HC
  go_enter Tryz.func67, Tryz.ntmps67
  go_wp2
  go_loopw [4] (fun s4 wr => ∃ (j : Nat) (oa : Option Addr) (oc : Nat), s4 = .int .i64 j ∧ j ≤ m.fs.length ∧ Hid (Blk wr (w.heap.size) 35 #[.slice ka m.fs.length kc, .slice va m.us.length vc]) ∧ Hid (Blk wr (w.heap.size + 1) 35 #[.slice none 0 0, .slice none 0 0]) ∧ Hid (Blk wr (w.heap.size + 1 + 1) 35 #[.slice oa j oc, .slice none 0 0]) ∧ Hid (OwnM wr (w.heap.size + 3) 29 3 (FmF d) (.slice oa j oc) (m.fs.take j)) ∧ Hid (Below w.heap.size w wr) ∧ Hid (w.heap.size + 3 ≤ wr.heap.size)) (fun s4 wr => m.fs.length - numAt wr s4)
  case atStart => exact ⟨0, none, 0, rfl, by omega, hid (((Blk.new _ _ _).kept (below_alloc _)).kept (below_alloc _)), hid ((Blk.newAt (by simp)).kept (below_alloc _)), hid (Blk.newAt (by simp)), hid (OwnM.nil _ _ _ _ _), hid (by exact blBy), hid (by simp)⟩
  case round =>
    obtain ⟨j, oa, oc, rfl, hj, BM, BR, BO, HO, hb, HS⟩ := hrel
    have xm := BM.out.cellF
    have zm := BM.out.lt
    have xo := BO.out.cellF
    have yo := BO.out.frz
    have zo := BO.out.lt
    by_cases hlt : j < m.fs.length
    · have k2 : (j : Int) < (m.fs.length : Int) := by omega
      obtain ⟨b1, o1, pa, pc, qa, qc, rfl, hz1, hb1, c0, c1, c2, he⟩ := fls_at (G.out.kept hb.out) hlt
      have HE := hid he
      have HTK : Hid (m.fs.take (j + 1) = m.fs.take j ++ [m.fs[j]]) := hid (List.take_succ_eq_append_getElem hlt)
      have HLN : Hid ((m.fs.take j).length = j) := hid (by simp; omega)
      generalize m.fs[j] = x at *
      have hbl := hz1.2
      have HSK : Hid (∀ W, Keep (fun b => b < w.heap.size + 3 ∧ b ≠ w.heap.size + 1 + 1) wr W → (fun W => (∀ k, W.cell? ⟨w.heap.size, k, none⟩ = #[.slice (some ⟨b1, o1, none⟩) m.fs.length kc, .slice va m.us.length vc][k]?) ∧ W.cell? ⟨b1, o1 + j * 3, none⟩ = some (.int .i64 x.num) ∧ W.cell? ⟨b1, o1 + j * 3 + 1, none⟩ = some (.slice pa x.ks.length pc) ∧ W.cell? ⟨b1, o1 + j * 3 + 2, none⟩ = some (.slice qa x.vs.length qc)) W) := hid fun W hk => ⟨(BM.out.keep hk ⟨by omega, by omega⟩).cellF, cell_kp c0 hk ⟨by omega, by omega⟩, cell_kp c1 hk ⟨by omega, by omega⟩, cell_kp c2 hk ⟨by omega, by omega⟩⟩
      clear he hz1
      go_upto_region 5 with fail
      refine wp_region_held_drew (S := (fun W => (∀ k, W.cell? ⟨w.heap.size, k, none⟩ = #[.slice (some ⟨b1, o1, none⟩) m.fs.length kc, .slice va m.us.length vc][k]?) ∧ W.cell? ⟨b1, o1 + j * 3, none⟩ = some (.int .i64 x.num) ∧ W.cell? ⟨b1, o1 + j * 3 + 1, none⟩ = some (.slice pa x.ks.length pc) ∧ W.cell? ⟨b1, o1 + j * 3 + 2, none⟩ = some (.slice qa x.vs.length qc))) (by kernel_rfl) ?_ (fun hHeld => ?_)
      · exact HSK.out _ (Keep.ofBelow (below_drew1 _))
      refine wpAnyH_take (i := 0) (v := ?_) rfl (by kernel_rfl) (by kernel_rfl) (by kernel_rfl) (fun _ _ _ h => h) (Or.inl ⟨by rfl, ?_⟩) (by assumption) ?_
      rotate_left
      · (intro w hSw; (try dsimp only at hSw); go_simp; (try with_reducible rfl))
      try simp only [Act.put, List.getElem_toArray, List.getElem_cons_succ, List.getElem_cons_zero, List.setIfInBounds_toArray, List.set_cons_zero, List.set_cons_succ]
      refine wpAnyH_take (i := 2) (v := ?_) rfl (by kernel_rfl) (by kernel_rfl) (by kernel_rfl) (fun _ _ _ h => h) (Or.inl ⟨by rfl, ?_⟩) (by assumption) ?_
      rotate_left
      · (intro w hSw; (try dsimp only at hSw); go_simp; (try with_reducible rfl))
      try simp only [Act.put, List.getElem_toArray, List.getElem_cons_succ, List.getElem_cons_zero, List.setIfInBounds_toArray, List.set_cons_zero, List.set_cons_succ]
      refine wpAnyH_take (i := 3) (v := ?_) rfl (by kernel_rfl) (by kernel_rfl) (by kernel_rfl) (fun _ _ _ h => h) (Or.inl ⟨by rfl, ?_⟩) (by assumption) ?_
      rotate_left
      · (intro w hSw; (try dsimp only at hSw); go_simp; (try with_reducible rfl))
      try simp only [Act.put, List.getElem_toArray, List.getElem_cons_succ, List.getElem_cons_zero, List.setIfInBounds_toArray, List.set_cons_zero, List.set_cons_succ]
      refine wpAnyH_take (i := 4) (v := ?_) rfl (by kernel_rfl) (by kernel_rfl) (by kernel_rfl) (fun _ _ _ h => h) (Or.inl ⟨by rfl, ?_⟩) (by assumption) ?_
      rotate_left
      · (intro w hSw; (try dsimp only at hSw); go_simp; (try with_reducible rfl))
      try simp only [Act.put, List.getElem_toArray, List.getElem_cons_succ, List.getElem_cons_zero, List.setIfInBounds_toArray, List.set_cons_zero, List.set_cons_succ]
      refine wpAnyH_take (i := 5) (v := ?_) rfl (by kernel_rfl) (by kernel_rfl) (by kernel_rfl) (fun _ _ _ h => h) (Or.inl ⟨by rfl, ?_⟩) (by assumption) ?_
      rotate_left
      · (intro w hSw; (try dsimp only at hSw); go_simp; (try with_reducible rfl))
      try simp only [Act.put, List.getElem_toArray, List.getElem_cons_succ, List.getElem_cons_zero, List.setIfInBounds_toArray, List.set_cons_zero, List.set_cons_succ]
      refine wpAnyH_take (i := 6) (v := ?_) rfl (by kernel_rfl) (by kernel_rfl) (by kernel_rfl) (fun _ _ _ h => h) (Or.inl ⟨by rfl, ?_⟩) (by assumption) ?_
      rotate_left
      · (intro w hSw; (try dsimp only at hSw); go_simp; (try with_reducible rfl))
      try simp only [Act.put, List.getElem_toArray, List.getElem_cons_succ, List.getElem_cons_zero, List.setIfInBounds_toArray, List.set_cons_zero, List.set_cons_succ]
      refine wpAnyH_ready (rs := [1, 7]) (by kernel_rfl) (by simp) ?_
      refine AllReadyH.cons rfl (fun K hK => ?_) ?_
      · go_simp
        refine hK.out _ _ ?_ (fun hHeld => ?_)
        · first | assumption | exact HSK.out _ (Keep.ofBelow (below_drew1 _))
        clear hK K
        try simp only [Act.put, List.getElem_toArray, List.getElem_cons_succ, List.getElem_cons_zero, List.setIfInBounds_toArray, List.set_cons_zero, List.set_cons_succ]
        refine wpAnyH_ready (rs := [7]) (by kernel_rfl) (by simp) ?_
        refine AllReadyH.cons rfl (fun K hK => ?_) ?_
        · go_simp
          go_wp2_with (go_at_call 68; refine (HCC.out _ (fun b => Z b ∧ b < w.heap.size) _ x (HE.out.kept (below_drew1 _))).mono ?_; rintro e u1 ⟨ds, rfl, hn, hbu⟩; have HX1 : Hid (Below wr.heap.size wr u1) := hid (bl_then (below_drew1 _) hbu); have K1 : Hid (Keep (fun b => b < w.heap.size + 3 ∧ b ≠ w.heap.size + 1 + 1) wr u1) := hid (Keep.ofBelow HX1.out); have HZ := hid (zof_new (famF d) HO.out (by simp) (by have := HS.out; omega) hn); have HO1 := hid (HO.out.kept (famF d) HX1.out); obtain ⟨ka2, kc2, va2, vc2, rfl, -⟩ := fld_open HZ.out; have BO1 := hid (BO.out.kept HX1.out); have xo1 := BO1.out.cellF; have yo1 := BO1.out.frz; have zo1 := BO1.out.lt; have hs1 := HX1.out.size; clear hbu hn)
          refine hK.out _ _ ?_ (fun hHeld => ?_)
          · first | assumption | exact HSK.out _ (K1.out)
          clear hK K
          try simp only [Act.put, List.getElem_toArray, List.getElem_cons_succ, List.getElem_cons_zero, List.setIfInBounds_toArray, List.set_cons_zero, List.set_cons_succ]
          obtain ⟨la, lc, x3, HRUN, HO2, HG⟩ := OwnM.push (famF d) 29 32 56 (.agg #[.int .i64 0, .slice none 0 0, .slice none 0 0]) Tryz.underlying32 Tryz.infoF rfl (by decide) (by decide) HO1.out HZ.out (by have := HS.out; omega) (by rw [HLN.out]; omega)
          rw [HLN.out] at HRUN HO2 HG
          refine wpAnyH_ready (rs := [8]) (by kernel_rfl) (by simp) ?_
          refine AllReadyH.cons rfl (fun K hK => ?_) ?_
          · go_simp
            refine hK.out _ _ ?_ (fun hHeld => ?_)
            · first | assumption | exact HSK.out _ (kpA K1.out _)
            clear hK K
            try simp only [Act.put, List.getElem_toArray, List.getElem_cons_succ, List.getElem_cons_zero, List.setIfInBounds_toArray, List.set_cons_zero, List.set_cons_succ]
            refine wpAnyH_ready (rs := [9]) (by kernel_rfl) (by simp) ?_
            refine AllReadyH.cons rfl (fun K hK => ?_) ?_
            · refine step_append_ran rfl _ _ 32 32 rfl rfl _ _ (.slice la (j + 1) lc) x3 rfl rfl HRUN.out ?_
              have KG : Hid (Keep (· < w.heap.size + 3) u1 x3) := hid (Keep.ofGrow HG.out (fun q (hq : q < w.heap.size + 3) e => by have := (HO1.out.own e).1; omega))
              have K3 : Hid (Keep (fun b => b < w.heap.size + 3 ∧ b ≠ w.heap.size + 1 + 1) wr x3) := hid (K1.out.trans (KG.out.weak (fun q hq => hq.1)))
              have BO3 : Hid (Blk x3 (w.heap.size + 1 + 1) 35 #[.slice oa j oc, .slice none 0 0]) := hid (BO1.out.keep KG.out (by show _ < _; omega))
              have xo3 := BO3.out.cellF
              have yo3 := BO3.out.frz
              have zo3 := BO3.out.lt
              have hs3 := HG.out.size
              refine hK.out _ _ ?_ (fun hHeld => ?_)
              · first | assumption | exact HSK.out _ (K3.out)
              clear hK K
              try simp only [Act.put, List.getElem_toArray, List.getElem_cons_succ, List.getElem_cons_zero, List.setIfInBounds_toArray, List.set_cons_zero, List.set_cons_succ]
              refine wpAnyH_take (i := 10) (v := ?_) rfl (by kernel_rfl) (by kernel_rfl) (by kernel_rfl) (fun _ _ _ h => h) (Or.inl ⟨by rfl, ?_⟩) (by assumption) ?_
              rotate_left
              · (intro w hSw; (try dsimp only at hSw); go_simp; (try with_reducible rfl))
              try simp only [Act.put, List.getElem_toArray, List.getElem_cons_succ, List.getElem_cons_zero, List.setIfInBounds_toArray, List.set_cons_zero, List.set_cons_succ]
              refine wpAnyH_ready (rs := [11]) (by kernel_rfl) (by simp) ?_
              refine AllReadyH.cons rfl (fun K hK => ?_) ?_
              · go_simp
                refine hK.out _ _ ?_ (fun hHeld => ?_)
                · first | assumption | exact HSK.out _ (kpS K3.out (by simp))
                clear hK K
                try simp only [Act.put, List.getElem_toArray, List.getElem_cons_succ, List.getElem_cons_zero, List.setIfInBounds_toArray, List.set_cons_zero, List.set_cons_succ]
                refine wpAnyH_done (by kernel_rfl) ?_ _
                go_wp2
                exact ⟨⟨j + 1, la, lc, by simp, by omega, hid ((BM.out.keep K3.out ⟨by omega, by omega⟩).other (by first | (simp; done) | (simp; omega) | omega) _), hid ((BR.out.keep K3.out ⟨by omega, by omega⟩).other (by first | (simp; done) | (simp; omega) | omega) _), hid ((BO3.out.set 0 _).is (by simp)), hid (by rw [HTK.out]; exact HO2.out.keepB (famF d) (Keep.setCell _ _ _ (by simp))), hid (Below.trans (hb.out) (Below.trans (HX1.out.mono hb.out.size) (by have h3 := KG.out.below (B := w.heap.size) (by have := hb.out.size; omega) (fun k hk => by show k < _; omega); exact h3.setCell (by simp; omega) _))), hid (by have := HS.out; simp; omega)⟩, by simp [numAt]; omega⟩
              exact AllReadyH.nil
            exact AllReadyH.nil
          exact AllReadyH.nil
        exact AllReadyH.nil
      refine AllReadyH.cons rfl (fun K hK => ?_) ?_
      · go_simp
        go_wp2_with (go_at_call 68; refine (HCC.out _ (fun b => Z b ∧ b < w.heap.size) _ x (HE.out.kept (below_drew1 _))).mono ?_; rintro e u1 ⟨ds, rfl, hn, hbu⟩; have HX1 : Hid (Below wr.heap.size wr u1) := hid (bl_then (below_drew1 _) hbu); have K1 : Hid (Keep (fun b => b < w.heap.size + 3 ∧ b ≠ w.heap.size + 1 + 1) wr u1) := hid (Keep.ofBelow HX1.out); have HZ := hid (zof_new (famF d) HO.out (by simp) (by have := HS.out; omega) hn); have HO1 := hid (HO.out.kept (famF d) HX1.out); obtain ⟨ka2, kc2, va2, vc2, rfl, -⟩ := fld_open HZ.out; have BO1 := hid (BO.out.kept HX1.out); have xo1 := BO1.out.cellF; have yo1 := BO1.out.frz; have zo1 := BO1.out.lt; have hs1 := HX1.out.size; clear hbu hn)
        refine hK.out _ _ ?_ (fun hHeld => ?_)
        · first | assumption | exact HSK.out _ (K1.out)
        clear hK K
        try simp only [Act.put, List.getElem_toArray, List.getElem_cons_succ, List.getElem_cons_zero, List.setIfInBounds_toArray, List.set_cons_zero, List.set_cons_succ]
        obtain ⟨la, lc, x3, HRUN, HO2, HG⟩ := OwnM.push (famF d) 29 32 56 (.agg #[.int .i64 0, .slice none 0 0, .slice none 0 0]) Tryz.underlying32 Tryz.infoF rfl (by decide) (by decide) HO1.out HZ.out (by have := HS.out; omega) (by rw [HLN.out]; omega)
        rw [HLN.out] at HRUN HO2 HG
        refine wpAnyH_ready (rs := [1, 8]) (by kernel_rfl) (by simp) ?_
        refine AllReadyH.cons rfl (fun K hK => ?_) ?_
        · go_simp
          refine hK.out _ _ ?_ (fun hHeld => ?_)
          · first | assumption | exact HSK.out _ (K1.out)
          clear hK K
          try simp only [Act.put, List.getElem_toArray, List.getElem_cons_succ, List.getElem_cons_zero, List.setIfInBounds_toArray, List.set_cons_zero, List.set_cons_succ]
          refine wpAnyH_ready (rs := [8]) (by kernel_rfl) (by simp) ?_
          refine AllReadyH.cons rfl (fun K hK => ?_) ?_
          · go_simp
            refine hK.out _ _ ?_ (fun hHeld => ?_)
            · first | assumption | exact HSK.out _ (kpA K1.out _)
            clear hK K
            try simp only [Act.put, List.getElem_toArray, List.getElem_cons_succ, List.getElem_cons_zero, List.setIfInBounds_toArray, List.set_cons_zero, List.set_cons_succ]
            refine wpAnyH_ready (rs := [9]) (by kernel_rfl) (by simp) ?_
            refine AllReadyH.cons rfl (fun K hK => ?_) ?_
            · refine step_append_ran rfl _ _ 32 32 rfl rfl _ _ (.slice la (j + 1) lc) x3 rfl rfl HRUN.out ?_
              have KG : Hid (Keep (· < w.heap.size + 3) u1 x3) := hid (Keep.ofGrow HG.out (fun q (hq : q < w.heap.size + 3) e => by have := (HO1.out.own e).1; omega))
              have K3 : Hid (Keep (fun b => b < w.heap.size + 3 ∧ b ≠ w.heap.size + 1 + 1) wr x3) := hid (K1.out.trans (KG.out.weak (fun q hq => hq.1)))
              have BO3 : Hid (Blk x3 (w.heap.size + 1 + 1) 35 #[.slice oa j oc, .slice none 0 0]) := hid (BO1.out.keep KG.out (by show _ < _; omega))
              have xo3 := BO3.out.cellF
              have yo3 := BO3.out.frz
              have zo3 := BO3.out.lt
              have hs3 := HG.out.size
              refine hK.out _ _ ?_ (fun hHeld => ?_)
              · first | assumption | exact HSK.out _ (K3.out)
              clear hK K
              try simp only [Act.put, List.getElem_toArray, List.getElem_cons_succ, List.getElem_cons_zero, List.setIfInBounds_toArray, List.set_cons_zero, List.set_cons_succ]
              refine wpAnyH_take (i := 10) (v := ?_) rfl (by kernel_rfl) (by kernel_rfl) (by kernel_rfl) (fun _ _ _ h => h) (Or.inl ⟨by rfl, ?_⟩) (by assumption) ?_
              rotate_left
              · (intro w hSw; (try dsimp only at hSw); go_simp; (try with_reducible rfl))
              try simp only [Act.put, List.getElem_toArray, List.getElem_cons_succ, List.getElem_cons_zero, List.setIfInBounds_toArray, List.set_cons_zero, List.set_cons_succ]
              refine wpAnyH_ready (rs := [11]) (by kernel_rfl) (by simp) ?_
              refine AllReadyH.cons rfl (fun K hK => ?_) ?_
              · go_simp
                refine hK.out _ _ ?_ (fun hHeld => ?_)
                · first | assumption | exact HSK.out _ (kpS K3.out (by simp))
                clear hK K
                try simp only [Act.put, List.getElem_toArray, List.getElem_cons_succ, List.getElem_cons_zero, List.setIfInBounds_toArray, List.set_cons_zero, List.set_cons_succ]
                refine wpAnyH_done (by kernel_rfl) ?_ _
                go_wp2
                exact ⟨⟨j + 1, la, lc, by simp, by omega, hid ((BM.out.keep K3.out ⟨by omega, by omega⟩).other (by first | (simp; done) | (simp; omega) | omega) _), hid ((BR.out.keep K3.out ⟨by omega, by omega⟩).other (by first | (simp; done) | (simp; omega) | omega) _), hid ((BO3.out.set 0 _).is (by simp)), hid (by rw [HTK.out]; exact HO2.out.keepB (famF d) (Keep.setCell _ _ _ (by simp))), hid (Below.trans (hb.out) (Below.trans (HX1.out.mono hb.out.size) (by have h3 := KG.out.below (B := w.heap.size) (by have := hb.out.size; omega) (fun k hk => by show k < _; omega); exact h3.setCell (by simp; omega) _))), hid (by have := HS.out; simp; omega)⟩, by simp [numAt]; omega⟩
              exact AllReadyH.nil
            exact AllReadyH.nil
          exact AllReadyH.nil
        refine AllReadyH.cons rfl (fun K hK => ?_) ?_
        · go_simp
          refine hK.out _ _ ?_ (fun hHeld => ?_)
          · first | assumption | exact HSK.out _ (kpA K1.out _)
          clear hK K
          try simp only [Act.put, List.getElem_toArray, List.getElem_cons_succ, List.getElem_cons_zero, List.setIfInBounds_toArray, List.set_cons_zero, List.set_cons_succ]
          refine wpAnyH_ready (rs := [1]) (by kernel_rfl) (by simp) ?_
          refine AllReadyH.cons rfl (fun K hK => ?_) ?_
          · go_simp
            refine hK.out _ _ ?_ (fun hHeld => ?_)
            · first | assumption | exact HSK.out _ (kpA K1.out _)
            clear hK K
            try simp only [Act.put, List.getElem_toArray, List.getElem_cons_succ, List.getElem_cons_zero, List.setIfInBounds_toArray, List.set_cons_zero, List.set_cons_succ]
            refine wpAnyH_ready (rs := [9]) (by kernel_rfl) (by simp) ?_
            refine AllReadyH.cons rfl (fun K hK => ?_) ?_
            · refine step_append_ran rfl _ _ 32 32 rfl rfl _ _ (.slice la (j + 1) lc) x3 rfl rfl HRUN.out ?_
              have KG : Hid (Keep (· < w.heap.size + 3) u1 x3) := hid (Keep.ofGrow HG.out (fun q (hq : q < w.heap.size + 3) e => by have := (HO1.out.own e).1; omega))
              have K3 : Hid (Keep (fun b => b < w.heap.size + 3 ∧ b ≠ w.heap.size + 1 + 1) wr x3) := hid (K1.out.trans (KG.out.weak (fun q hq => hq.1)))
              have BO3 : Hid (Blk x3 (w.heap.size + 1 + 1) 35 #[.slice oa j oc, .slice none 0 0]) := hid (BO1.out.keep KG.out (by show _ < _; omega))
              have xo3 := BO3.out.cellF
              have yo3 := BO3.out.frz
              have zo3 := BO3.out.lt
              have hs3 := HG.out.size
              refine hK.out _ _ ?_ (fun hHeld => ?_)
              · first | assumption | exact HSK.out _ (K3.out)
              clear hK K
              try simp only [Act.put, List.getElem_toArray, List.getElem_cons_succ, List.getElem_cons_zero, List.setIfInBounds_toArray, List.set_cons_zero, List.set_cons_succ]
              refine wpAnyH_take (i := 10) (v := ?_) rfl (by kernel_rfl) (by kernel_rfl) (by kernel_rfl) (fun _ _ _ h => h) (Or.inl ⟨by rfl, ?_⟩) (by assumption) ?_
              rotate_left
              · (intro w hSw; (try dsimp only at hSw); go_simp; (try with_reducible rfl))
              try simp only [Act.put, List.getElem_toArray, List.getElem_cons_succ, List.getElem_cons_zero, List.setIfInBounds_toArray, List.set_cons_zero, List.set_cons_succ]
              refine wpAnyH_ready (rs := [11]) (by kernel_rfl) (by simp) ?_
              refine AllReadyH.cons rfl (fun K hK => ?_) ?_
              · go_simp
                refine hK.out _ _ ?_ (fun hHeld => ?_)
                · first | assumption | exact HSK.out _ (kpS K3.out (by simp))
                clear hK K
                try simp only [Act.put, List.getElem_toArray, List.getElem_cons_succ, List.getElem_cons_zero, List.setIfInBounds_toArray, List.set_cons_zero, List.set_cons_succ]
                refine wpAnyH_done (by kernel_rfl) ?_ _
                go_wp2
                exact ⟨⟨j + 1, la, lc, by simp, by omega, hid ((BM.out.keep K3.out ⟨by omega, by omega⟩).other (by first | (simp; done) | (simp; omega) | omega) _), hid ((BR.out.keep K3.out ⟨by omega, by omega⟩).other (by first | (simp; done) | (simp; omega) | omega) _), hid ((BO3.out.set 0 _).is (by simp)), hid (by rw [HTK.out]; exact HO2.out.keepB (famF d) (Keep.setCell _ _ _ (by simp))), hid (Below.trans (hb.out) (Below.trans (HX1.out.mono hb.out.size) (by have h3 := KG.out.below (B := w.heap.size) (by have := hb.out.size; omega) (fun k hk => by show k < _; omega); exact h3.setCell (by simp; omega) _))), hid (by have := HS.out; simp; omega)⟩, by simp [numAt]; omega⟩
              exact AllReadyH.nil
            exact AllReadyH.nil
          exact AllReadyH.nil
        exact AllReadyH.nil
      exact AllReadyH.nil
    · have k2 : ¬ (j : Int) < (m.fs.length : Int) := by omega
      have ej : j = m.fs.length := by omega
      subst ej
      have e1 : m.fs.take m.fs.length = m.fs := List.take_length
      rw [e1] at HO
      have HFL0 := hid (FlsR.old (HO.out.row (famF d) l1))
      have HSB : Hid (w.heap.size + 3 ≤ wr.heap.size) := HS
      generalize hN0 : wr.heap.size = N0 at *
      have HN0 := hid hN0
      clear e1 k2 HO HS hlt hj
      go_wp2
      go_loopw [5] (fun s5 wr => ∃ (j : Nat) (ua : Option Addr) (uc : Nat), s5 = .int .i64 j ∧ j ≤ m.us.length ∧ Hid (Blk wr (w.heap.size) 35 #[.slice ka m.fs.length kc, .slice va m.us.length vc]) ∧ Hid (Blk wr (w.heap.size + 1) 35 #[.slice none 0 0, .slice none 0 0]) ∧ Hid (Blk wr (w.heap.size + 1 + 1) 35 #[.slice oa m.fs.length oc, .slice ua j uc]) ∧ Hid (FlsR wr (fun b => w.heap.size + 3 ≤ b ∧ b < N0) d (.slice oa m.fs.length oc) m.fs) ∧ Hid (OwnM wr N0 40 4 FmE (.slice ua j uc) (m.us.take j)) ∧ Hid (Below w.heap.size w wr) ∧ Hid (N0 ≤ wr.heap.size)) (fun s5 wr => m.us.length - numAt wr s5)
      case atStart => exact ⟨0, none, 0, rfl, by omega, BM, BR, BO, HFL0, hid (OwnM.nil _ _ _ _ _), hb, hid (by have := HN0.out; omega)⟩
      case round =>
        clear BM BR BO HFL0 hb xm zm xo yo zo HN0 hN0
        rename_i wr0
        obtain ⟨j, ua, uc, rfl, hj, BM, BR, BO, HFL, HO, hb, HS⟩ := hrel
        have xm := BM.out.cellF
        have zm := BM.out.lt
        have xo := BO.out.cellF
        have yo := BO.out.frz
        have zo := BO.out.lt
        by_cases hlt : j < m.us.length
        · have k2 : (j : Int) < (m.us.length : Int) := by omega
          obtain ⟨b1, o1, pa, pc, rfl, hz1, hb1, c0, c1, c2, c3, he⟩ := ens_at (Q.out.kept hb.out) hlt
          have HE := hid he
          have HTK : Hid (m.us.take (j + 1) = m.us.take j ++ [m.us[j]]) := hid (List.take_succ_eq_append_getElem hlt)
          have HLN : Hid ((m.us.take j).length = j) := hid (by simp; omega)
          generalize m.us[j] = x at *
          have hbl := hz1.2
          have HSK : Hid (∀ W, Keep (fun b => b < w.heap.size + 3 ∧ b ≠ w.heap.size + 1 + 1) wr W → (fun W => (∀ k, W.cell? ⟨w.heap.size, k, none⟩ = #[.slice ka m.fs.length kc, .slice (some ⟨b1, o1, none⟩) m.us.length vc][k]?) ∧ W.cell? ⟨b1, o1 + j * 4, none⟩ = some (.int .i64 x.num) ∧ W.cell? ⟨b1, o1 + j * 4 + 1, none⟩ = some (.int .i64 x.kind) ∧ W.cell? ⟨b1, o1 + j * 4 + 2, none⟩ = some (.int .u64 x.n) ∧ W.cell? ⟨b1, o1 + j * 4 + 3, none⟩ = some (.slice pa x.b.length pc)) W) := hid fun W hk => ⟨(BM.out.keep hk ⟨by omega, by omega⟩).cellF, cell_kp c0 hk ⟨by omega, by omega⟩, cell_kp c1 hk ⟨by omega, by omega⟩, cell_kp c2 hk ⟨by omega, by omega⟩, cell_kp c3 hk ⟨by omega, by omega⟩⟩
          clear he hz1
          go_upto_region 9 with fail
          refine wp_region_held_drew (S := (fun W => (∀ k, W.cell? ⟨w.heap.size, k, none⟩ = #[.slice ka m.fs.length kc, .slice (some ⟨b1, o1, none⟩) m.us.length vc][k]?) ∧ W.cell? ⟨b1, o1 + j * 4, none⟩ = some (.int .i64 x.num) ∧ W.cell? ⟨b1, o1 + j * 4 + 1, none⟩ = some (.int .i64 x.kind) ∧ W.cell? ⟨b1, o1 + j * 4 + 2, none⟩ = some (.int .u64 x.n) ∧ W.cell? ⟨b1, o1 + j * 4 + 3, none⟩ = some (.slice pa x.b.length pc))) (by kernel_rfl) ?_ (fun hHeld => ?_)
          · exact HSK.out _ (Keep.ofBelow (below_drew1 _))
          refine wpAnyH_take (i := 0) (v := ?_) rfl (by kernel_rfl) (by kernel_rfl) (by kernel_rfl) (fun _ _ _ h => h) (Or.inl ⟨by rfl, ?_⟩) (by assumption) ?_
          rotate_left
          · (intro w hSw; (try dsimp only at hSw); go_simp; (try with_reducible rfl))
          try simp only [Act.put, List.getElem_toArray, List.getElem_cons_succ, List.getElem_cons_zero, List.setIfInBounds_toArray, List.set_cons_zero, List.set_cons_succ]
          refine wpAnyH_take (i := 2) (v := ?_) rfl (by kernel_rfl) (by kernel_rfl) (by kernel_rfl) (fun _ _ _ h => h) (Or.inl ⟨by rfl, ?_⟩) (by assumption) ?_
          rotate_left
          · (intro w hSw; (try dsimp only at hSw); go_simp; (try with_reducible rfl))
          try simp only [Act.put, List.getElem_toArray, List.getElem_cons_succ, List.getElem_cons_zero, List.setIfInBounds_toArray, List.set_cons_zero, List.set_cons_succ]
          refine wpAnyH_take (i := 3) (v := ?_) rfl (by kernel_rfl) (by kernel_rfl) (by kernel_rfl) (fun _ _ _ h => h) (Or.inl ⟨by rfl, ?_⟩) (by assumption) ?_
          rotate_left
          · (intro w hSw; (try dsimp only at hSw); go_simp; (try with_reducible rfl))
          try simp only [Act.put, List.getElem_toArray, List.getElem_cons_succ, List.getElem_cons_zero, List.setIfInBounds_toArray, List.set_cons_zero, List.set_cons_succ]
          refine wpAnyH_take (i := 4) (v := ?_) rfl (by kernel_rfl) (by kernel_rfl) (by kernel_rfl) (fun _ _ _ h => h) (Or.inl ⟨by rfl, ?_⟩) (by assumption) ?_
          rotate_left
          · (intro w hSw; (try dsimp only at hSw); go_simp; (try with_reducible rfl))
          try simp only [Act.put, List.getElem_toArray, List.getElem_cons_succ, List.getElem_cons_zero, List.setIfInBounds_toArray, List.set_cons_zero, List.set_cons_succ]
          refine wpAnyH_take (i := 5) (v := ?_) rfl (by kernel_rfl) (by kernel_rfl) (by kernel_rfl) (fun _ _ _ h => h) (Or.inl ⟨by rfl, ?_⟩) (by assumption) ?_
          rotate_left
          · (intro w hSw; (try dsimp only at hSw); go_simp; (try with_reducible rfl))
          try simp only [Act.put, List.getElem_toArray, List.getElem_cons_succ, List.getElem_cons_zero, List.setIfInBounds_toArray, List.set_cons_zero, List.set_cons_succ]
          refine wpAnyH_take (i := 6) (v := ?_) rfl (by kernel_rfl) (by kernel_rfl) (by kernel_rfl) (fun _ _ _ h => h) (Or.inl ⟨by rfl, ?_⟩) (by assumption) ?_
          rotate_left
          · (intro w hSw; (try dsimp only at hSw); go_simp; (try with_reducible rfl))
          try simp only [Act.put, List.getElem_toArray, List.getElem_cons_succ, List.getElem_cons_zero, List.setIfInBounds_toArray, List.set_cons_zero, List.set_cons_succ]
          refine wpAnyH_ready (rs := [1, 7]) (by kernel_rfl) (by simp) ?_
          refine AllReadyH.cons rfl (fun K hK => ?_) ?_
          · go_simp
            refine hK.out _ _ ?_ (fun hHeld => ?_)
            · first | assumption | exact HSK.out _ (Keep.ofBelow (below_drew1 _))
            clear hK K
            try simp only [Act.put, List.getElem_toArray, List.getElem_cons_succ, List.getElem_cons_zero, List.setIfInBounds_toArray, List.set_cons_zero, List.set_cons_succ]
            refine wpAnyH_ready (rs := [7]) (by kernel_rfl) (by simp) ?_
            refine AllReadyH.cons rfl (fun K hK => ?_) ?_
            · go_simp
              go_wp2_with (go_at_call 74; refine (copyEntryD _ (fun b => Z b ∧ b < w.heap.size) _ x (HE.out.kept (below_drew1 _))).mono ?_; rintro e u1 ⟨ds, rfl, hn, hbu⟩; have HX1 : Hid (Below wr.heap.size wr u1) := hid (bl_then (below_drew1 _) hbu); have K1 : Hid (Keep (fun b => b < w.heap.size + 3 ∧ b ≠ w.heap.size + 1 + 1) wr u1) := hid (Keep.ofBelow HX1.out); have HZ := hid (zof_new famE HO.out (by simp) HS.out hn); have HO1 := hid (HO.out.kept famE HX1.out); obtain ⟨ka2, kc2, rfl, -⟩ := ent_open HZ.out; have BO1 := hid (BO.out.kept HX1.out); have xo1 := BO1.out.cellF; have yo1 := BO1.out.frz; have zo1 := BO1.out.lt; have hs1 := HX1.out.size; clear hbu hn)
              refine hK.out _ _ ?_ (fun hHeld => ?_)
              · first | assumption | exact HSK.out _ (K1.out)
              clear hK K
              try simp only [Act.put, List.getElem_toArray, List.getElem_cons_succ, List.getElem_cons_zero, List.setIfInBounds_toArray, List.set_cons_zero, List.set_cons_succ]
              obtain ⟨la, lc, x3, HRUN, HO2, HG⟩ := OwnM.push famE 40 33 48 (.agg #[.int .i64 0, .int .i64 0, .int .u64 0, .slice none 0 0]) Tryz.underlying33 Tryz.infoE rfl (by decide) (by decide) HO1.out HZ.out (by have := HS.out; omega) (by rw [HLN.out]; omega)
              rw [HLN.out] at HRUN HO2 HG
              refine wpAnyH_ready (rs := [8]) (by kernel_rfl) (by simp) ?_
              refine AllReadyH.cons rfl (fun K hK => ?_) ?_
              · go_simp
                refine hK.out _ _ ?_ (fun hHeld => ?_)
                · first | assumption | exact HSK.out _ (kpA K1.out _)
                clear hK K
                try simp only [Act.put, List.getElem_toArray, List.getElem_cons_succ, List.getElem_cons_zero, List.setIfInBounds_toArray, List.set_cons_zero, List.set_cons_succ]
                refine wpAnyH_ready (rs := [9]) (by kernel_rfl) (by simp) ?_
                refine AllReadyH.cons rfl (fun K hK => ?_) ?_
                · refine step_append_ran rfl _ _ 33 33 rfl rfl _ _ (.slice la (j + 1) lc) x3 rfl rfl HRUN.out ?_
                  have KG : Hid (Keep (· < N0) u1 x3) := hid (Keep.ofGrow HG.out (fun q (hq : q < N0) e => by have := (HO1.out.own e).1; omega))
                  have K3 : Hid (Keep (fun b => b < w.heap.size + 3 ∧ b ≠ w.heap.size + 1 + 1) wr x3) := hid (K1.out.trans (KG.out.weak (fun q hq => by have := hq.1; have := HSB.out; omega)))
                  have BO3 : Hid (Blk x3 (w.heap.size + 1 + 1) 35 #[.slice oa m.fs.length oc, .slice ua j uc]) := hid (BO1.out.keep KG.out (by show _ < _; have := HSB.out; omega))
                  have xo3 := BO3.out.cellF
                  have yo3 := BO3.out.frz
                  have zo3 := BO3.out.lt
                  have hs3 := HG.out.size
                  refine hK.out _ _ ?_ (fun hHeld => ?_)
                  · first | assumption | exact HSK.out _ (K3.out)
                  clear hK K
                  try simp only [Act.put, List.getElem_toArray, List.getElem_cons_succ, List.getElem_cons_zero, List.setIfInBounds_toArray, List.set_cons_zero, List.set_cons_succ]
                  refine wpAnyH_take (i := 10) (v := ?_) rfl (by kernel_rfl) (by kernel_rfl) (by kernel_rfl) (fun _ _ _ h => h) (Or.inl ⟨by rfl, ?_⟩) (by assumption) ?_
                  rotate_left
                  · (intro w hSw; (try dsimp only at hSw); go_simp; (try with_reducible rfl))
                  try simp only [Act.put, List.getElem_toArray, List.getElem_cons_succ, List.getElem_cons_zero, List.setIfInBounds_toArray, List.set_cons_zero, List.set_cons_succ]
                  refine wpAnyH_ready (rs := [11]) (by kernel_rfl) (by simp) ?_
                  refine AllReadyH.cons rfl (fun K hK => ?_) ?_
                  · go_simp
                    refine hK.out _ _ ?_ (fun hHeld => ?_)
                    · first | assumption | exact HSK.out _ (kpS K3.out (by simp))
                    clear hK K
                    try simp only [Act.put, List.getElem_toArray, List.getElem_cons_succ, List.getElem_cons_zero, List.setIfInBounds_toArray, List.set_cons_zero, List.set_cons_succ]
                    refine wpAnyH_done (by kernel_rfl) ?_ _
                    go_wp2
                    exact ⟨⟨j + 1, la, lc, by simp, by omega, hid ((BM.out.keep K3.out ⟨by omega, by omega⟩).other (by first | (simp; done) | (simp; omega) | omega) _), hid ((BR.out.keep K3.out ⟨by omega, by omega⟩).other (by first | (simp; done) | (simp; omega) | omega) _), hid ((BO3.out.set 1 _).is (by simp)), hid (FlsR.go HFL.out (f := fun b => w.heap.size + 3 ≤ b ∧ b < N0) ((Keep.ofBelow HX1.out).trans ((KG.out.weak (fun q hq => hq.2)).trans (Keep.setCell _ _ _ (by first | (simp; done) | (simp; omega) | omega)))) (fun _ h => h) (fun _ h => h)), hid (by rw [HTK.out]; exact HO2.out.keepB famE (Keep.setCell _ _ _ (by have := HSB.out; simp; omega))), hid (Below.trans (hb.out) (Below.trans (HX1.out.mono hb.out.size) (by have h3 := KG.out.below (B := w.heap.size) (by have := hb.out.size; omega) (fun k hk => by show k < _; have := HSB.out; omega); exact h3.setCell (by simp; omega) _))), hid (by have := HS.out; simp; omega)⟩, by simp [numAt]; omega⟩
                  exact AllReadyH.nil
                exact AllReadyH.nil
              exact AllReadyH.nil
            exact AllReadyH.nil
          refine AllReadyH.cons rfl (fun K hK => ?_) ?_
          · go_simp
            go_wp2_with (go_at_call 74; refine (copyEntryD _ (fun b => Z b ∧ b < w.heap.size) _ x (HE.out.kept (below_drew1 _))).mono ?_; rintro e u1 ⟨ds, rfl, hn, hbu⟩; have HX1 : Hid (Below wr.heap.size wr u1) := hid (bl_then (below_drew1 _) hbu); have K1 : Hid (Keep (fun b => b < w.heap.size + 3 ∧ b ≠ w.heap.size + 1 + 1) wr u1) := hid (Keep.ofBelow HX1.out); have HZ := hid (zof_new famE HO.out (by simp) HS.out hn); have HO1 := hid (HO.out.kept famE HX1.out); obtain ⟨ka2, kc2, rfl, -⟩ := ent_open HZ.out; have BO1 := hid (BO.out.kept HX1.out); have xo1 := BO1.out.cellF; have yo1 := BO1.out.frz; have zo1 := BO1.out.lt; have hs1 := HX1.out.size; clear hbu hn)
            refine hK.out _ _ ?_ (fun hHeld => ?_)
            · first | assumption | exact HSK.out _ (K1.out)
            clear hK K
            try simp only [Act.put, List.getElem_toArray, List.getElem_cons_succ, List.getElem_cons_zero, List.setIfInBounds_toArray, List.set_cons_zero, List.set_cons_succ]
            obtain ⟨la, lc, x3, HRUN, HO2, HG⟩ := OwnM.push famE 40 33 48 (.agg #[.int .i64 0, .int .i64 0, .int .u64 0, .slice none 0 0]) Tryz.underlying33 Tryz.infoE rfl (by decide) (by decide) HO1.out HZ.out (by have := HS.out; omega) (by rw [HLN.out]; omega)
            rw [HLN.out] at HRUN HO2 HG
            refine wpAnyH_ready (rs := [1, 8]) (by kernel_rfl) (by simp) ?_
            refine AllReadyH.cons rfl (fun K hK => ?_) ?_
            · go_simp
              refine hK.out _ _ ?_ (fun hHeld => ?_)
              · first | assumption | exact HSK.out _ (K1.out)
              clear hK K
              try simp only [Act.put, List.getElem_toArray, List.getElem_cons_succ, List.getElem_cons_zero, List.setIfInBounds_toArray, List.set_cons_zero, List.set_cons_succ]
              refine wpAnyH_ready (rs := [8]) (by kernel_rfl) (by simp) ?_
              refine AllReadyH.cons rfl (fun K hK => ?_) ?_
              · go_simp
                refine hK.out _ _ ?_ (fun hHeld => ?_)
                · first | assumption | exact HSK.out _ (kpA K1.out _)
                clear hK K
                try simp only [Act.put, List.getElem_toArray, List.getElem_cons_succ, List.getElem_cons_zero, List.setIfInBounds_toArray, List.set_cons_zero, List.set_cons_succ]
                refine wpAnyH_ready (rs := [9]) (by kernel_rfl) (by simp) ?_
                refine AllReadyH.cons rfl (fun K hK => ?_) ?_
                · refine step_append_ran rfl _ _ 33 33 rfl rfl _ _ (.slice la (j + 1) lc) x3 rfl rfl HRUN.out ?_
                  have KG : Hid (Keep (· < N0) u1 x3) := hid (Keep.ofGrow HG.out (fun q (hq : q < N0) e => by have := (HO1.out.own e).1; omega))
                  have K3 : Hid (Keep (fun b => b < w.heap.size + 3 ∧ b ≠ w.heap.size + 1 + 1) wr x3) := hid (K1.out.trans (KG.out.weak (fun q hq => by have := hq.1; have := HSB.out; omega)))
                  have BO3 : Hid (Blk x3 (w.heap.size + 1 + 1) 35 #[.slice oa m.fs.length oc, .slice ua j uc]) := hid (BO1.out.keep KG.out (by show _ < _; have := HSB.out; omega))
                  have xo3 := BO3.out.cellF
                  have yo3 := BO3.out.frz
                  have zo3 := BO3.out.lt
                  have hs3 := HG.out.size
                  refine hK.out _ _ ?_ (fun hHeld => ?_)
                  · first | assumption | exact HSK.out _ (K3.out)
                  clear hK K
                  try simp only [Act.put, List.getElem_toArray, List.getElem_cons_succ, List.getElem_cons_zero, List.setIfInBounds_toArray, List.set_cons_zero, List.set_cons_succ]
                  refine wpAnyH_take (i := 10) (v := ?_) rfl (by kernel_rfl) (by kernel_rfl) (by kernel_rfl) (fun _ _ _ h => h) (Or.inl ⟨by rfl, ?_⟩) (by assumption) ?_
                  rotate_left
                  · (intro w hSw; (try dsimp only at hSw); go_simp; (try with_reducible rfl))
                  try simp only [Act.put, List.getElem_toArray, List.getElem_cons_succ, List.getElem_cons_zero, List.setIfInBounds_toArray, List.set_cons_zero, List.set_cons_succ]
                  refine wpAnyH_ready (rs := [11]) (by kernel_rfl) (by simp) ?_
                  refine AllReadyH.cons rfl (fun K hK => ?_) ?_
                  · go_simp
                    refine hK.out _ _ ?_ (fun hHeld => ?_)
                    · first | assumption | exact HSK.out _ (kpS K3.out (by simp))
                    clear hK K
                    try simp only [Act.put, List.getElem_toArray, List.getElem_cons_succ, List.getElem_cons_zero, List.setIfInBounds_toArray, List.set_cons_zero, List.set_cons_succ]
                    refine wpAnyH_done (by kernel_rfl) ?_ _
                    go_wp2
                    exact ⟨⟨j + 1, la, lc, by simp, by omega, hid ((BM.out.keep K3.out ⟨by omega, by omega⟩).other (by first | (simp; done) | (simp; omega) | omega) _), hid ((BR.out.keep K3.out ⟨by omega, by omega⟩).other (by first | (simp; done) | (simp; omega) | omega) _), hid ((BO3.out.set 1 _).is (by simp)), hid (FlsR.go HFL.out (f := fun b => w.heap.size + 3 ≤ b ∧ b < N0) ((Keep.ofBelow HX1.out).trans ((KG.out.weak (fun q hq => hq.2)).trans (Keep.setCell _ _ _ (by first | (simp; done) | (simp; omega) | omega)))) (fun _ h => h) (fun _ h => h)), hid (by rw [HTK.out]; exact HO2.out.keepB famE (Keep.setCell _ _ _ (by have := HSB.out; simp; omega))), hid (Below.trans (hb.out) (Below.trans (HX1.out.mono hb.out.size) (by have h3 := KG.out.below (B := w.heap.size) (by have := hb.out.size; omega) (fun k hk => by show k < _; have := HSB.out; omega); exact h3.setCell (by simp; omega) _))), hid (by have := HS.out; simp; omega)⟩, by simp [numAt]; omega⟩
                  exact AllReadyH.nil
                exact AllReadyH.nil
              exact AllReadyH.nil
            refine AllReadyH.cons rfl (fun K hK => ?_) ?_
            · go_simp
              refine hK.out _ _ ?_ (fun hHeld => ?_)
              · first | assumption | exact HSK.out _ (kpA K1.out _)
              clear hK K
              try simp only [Act.put, List.getElem_toArray, List.getElem_cons_succ, List.getElem_cons_zero, List.setIfInBounds_toArray, List.set_cons_zero, List.set_cons_succ]
              refine wpAnyH_ready (rs := [1]) (by kernel_rfl) (by simp) ?_
              refine AllReadyH.cons rfl (fun K hK => ?_) ?_
              · go_simp
                refine hK.out _ _ ?_ (fun hHeld => ?_)
                · first | assumption | exact HSK.out _ (kpA K1.out _)
                clear hK K
                try simp only [Act.put, List.getElem_toArray, List.getElem_cons_succ, List.getElem_cons_zero, List.setIfInBounds_toArray, List.set_cons_zero, List.set_cons_succ]
                refine wpAnyH_ready (rs := [9]) (by kernel_rfl) (by simp) ?_
                refine AllReadyH.cons rfl (fun K hK => ?_) ?_
                · refine step_append_ran rfl _ _ 33 33 rfl rfl _ _ (.slice la (j + 1) lc) x3 rfl rfl HRUN.out ?_
                  have KG : Hid (Keep (· < N0) u1 x3) := hid (Keep.ofGrow HG.out (fun q (hq : q < N0) e => by have := (HO1.out.own e).1; omega))
                  have K3 : Hid (Keep (fun b => b < w.heap.size + 3 ∧ b ≠ w.heap.size + 1 + 1) wr x3) := hid (K1.out.trans (KG.out.weak (fun q hq => by have := hq.1; have := HSB.out; omega)))
                  have BO3 : Hid (Blk x3 (w.heap.size + 1 + 1) 35 #[.slice oa m.fs.length oc, .slice ua j uc]) := hid (BO1.out.keep KG.out (by show _ < _; have := HSB.out; omega))
                  have xo3 := BO3.out.cellF
                  have yo3 := BO3.out.frz
                  have zo3 := BO3.out.lt
                  have hs3 := HG.out.size
                  refine hK.out _ _ ?_ (fun hHeld => ?_)
                  · first | assumption | exact HSK.out _ (K3.out)
                  clear hK K
                  try simp only [Act.put, List.getElem_toArray, List.getElem_cons_succ, List.getElem_cons_zero, List.setIfInBounds_toArray, List.set_cons_zero, List.set_cons_succ]
                  refine wpAnyH_take (i := 10) (v := ?_) rfl (by kernel_rfl) (by kernel_rfl) (by kernel_rfl) (fun _ _ _ h => h) (Or.inl ⟨by rfl, ?_⟩) (by assumption) ?_
                  rotate_left
                  · (intro w hSw; (try dsimp only at hSw); go_simp; (try with_reducible rfl))
                  try simp only [Act.put, List.getElem_toArray, List.getElem_cons_succ, List.getElem_cons_zero, List.setIfInBounds_toArray, List.set_cons_zero, List.set_cons_succ]
                  refine wpAnyH_ready (rs := [11]) (by kernel_rfl) (by simp) ?_
                  refine AllReadyH.cons rfl (fun K hK => ?_) ?_
                  · go_simp
                    refine hK.out _ _ ?_ (fun hHeld => ?_)
                    · first | assumption | exact HSK.out _ (kpS K3.out (by simp))
                    clear hK K
                    try simp only [Act.put, List.getElem_toArray, List.getElem_cons_succ, List.getElem_cons_zero, List.setIfInBounds_toArray, List.set_cons_zero, List.set_cons_succ]
                    refine wpAnyH_done (by kernel_rfl) ?_ _
                    go_wp2
                    exact ⟨⟨j + 1, la, lc, by simp, by omega, hid ((BM.out.keep K3.out ⟨by omega, by omega⟩).other (by first | (simp; done) | (simp; omega) | omega) _), hid ((BR.out.keep K3.out ⟨by omega, by omega⟩).other (by first | (simp; done) | (simp; omega) | omega) _), hid ((BO3.out.set 1 _).is (by simp)), hid (FlsR.go HFL.out (f := fun b => w.heap.size + 3 ≤ b ∧ b < N0) ((Keep.ofBelow HX1.out).trans ((KG.out.weak (fun q hq => hq.2)).trans (Keep.setCell _ _ _ (by first | (simp; done) | (simp; omega) | omega)))) (fun _ h => h) (fun _ h => h)), hid (by rw [HTK.out]; exact HO2.out.keepB famE (Keep.setCell _ _ _ (by have := HSB.out; simp; omega))), hid (Below.trans (hb.out) (Below.trans (HX1.out.mono hb.out.size) (by have h3 := KG.out.below (B := w.heap.size) (by have := hb.out.size; omega) (fun k hk => by show k < _; have := HSB.out; omega); exact h3.setCell (by simp; omega) _))), hid (by have := HS.out; simp; omega)⟩, by simp [numAt]; omega⟩
                  exact AllReadyH.nil
                exact AllReadyH.nil
              exact AllReadyH.nil
            exact AllReadyH.nil
          exact AllReadyH.nil
        · have k2 : ¬ (j : Int) < (m.us.length : Int) := by omega
          have ej : j = m.us.length := by omega
          subst ej
          have e1 : m.us.take m.us.length = m.us := List.take_length
          rw [e1] at HO
          have HEN := hid (HO.out.row famE l2)
          have xr := BR.out.cellF
          have yr := BR.out.frz
          have zr := BR.out.lt
          have hb9 := hb.out
          clear e1 k2 HO hlt hj
          go_wp2
          exact bodyPost_ret (v := .agg #[.slice oa m.fs.length oc, .slice ua m.us.length uc]) (by simp [results, Tryz.results67, go_sem, xr, yr, zr]) rfl (NewE.mk [.slice oa m.fs.length oc, .slice ua m.us.length uc] ⟨_, _, rfl, FlsR.go HFL.out (f := (w.heap.size + 3 ≤ ·)) (by with_reducible repeat (first | exact Keep.refl _ _ | refine kpS ?_ (by first | (simp; done) | (simp; omega) | omega) | refine kpA ?_ _ | refine kpD ?_ | refine kpN ?_ _)) (fun _ h => h.1) (fun k hk => by have := hk.1; omega), EnsR.go HEN.out (f := (w.heap.size + 3 ≤ ·)) (by with_reducible repeat (first | exact Keep.refl _ _ | refine kpS ?_ (by first | (simp; done) | (simp; omega) | omega) | refine kpA ?_ _ | refine kpD ?_ | refine kpN ?_ _)) (fun b hb => by have := HSB.out; omega) (fun k hk => by have := HSB.out; omega)⟩ (by have := hb.out; exact blBy))
end Go.Proofs.YtgephggcgopfgaaGreatDoor
