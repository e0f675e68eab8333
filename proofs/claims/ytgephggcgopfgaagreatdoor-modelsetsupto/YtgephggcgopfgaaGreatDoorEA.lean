/-
  The document's Put.
-/
import Derived.Test.YtgephggcgopfgaaGreatDoorCCE
import Derived.Test.YtgephggcgopfgaaGreatDoorCCJ
import Derived.Maps.RangeWalk
namespace Go.Proofs.YtgephggcgopfgaaGreatDoor
open Go.RowKit
set_option maxRecDepth 1000000
set_option linter.unusedVariables false
set_option linter.unusedSimpArgs false
set_option maxHeartbeats 4000000
structure PutI (d : Nat) (w wr : World) (m : CM) (MA FF : Array Value) (po : Nat) (ua : Option Addr) (uc : Nat) (out : List (CF CM)) (oa : Option Addr) (k oc : Nat) : Prop where
  bm : Blk wr w.heap.size 35 MA
  bf : Blk wr (w.heap.size + 1) 29 FF
  br : Blk wr (w.heap.size + 1 + 1) 35 #[.slice none 0 0, .slice none 0 0]
  bo : Blk wr po 35 #[.slice oa k oc, .slice ua m.us.length uc]
  hu : EnsR wr (fun b => w.heap.size + 3 ≤ b ∧ b < po) (.slice ua m.us.length uc) m.us
  ho : OwnM wr (po + 1) 29 3 (FmF d) (.slice oa k oc) out
  ln : out.length = k
  hb : Below w.heap.size w wr
  hs : po + 1 ≤ wr.heap.size
theorem PutI.kept {d : Nat} {w wr W : World} {m : CM} {MA FF : Array Value} {po : Nat} {ua : Option Addr} {uc : Nat} {out : List (CF CM)} {oa : Option Addr} {k oc : Nat} (h : PutI d w wr m MA FF po ua uc out oa k oc) (hb : Below wr.heap.size wr W) : PutI d w W m MA FF po ua uc out oa k oc :=
  ⟨h.bm.kept hb, h.bf.kept hb, h.br.kept hb, h.bo.kept hb, h.hu.kept hb, h.ho.kept (famF d) hb, h.ln, below_trans h.hb hb, Nat.le_trans h.hs hb.size⟩
theorem PutI.step {d : Nat} {w wr x3 : World} {m : CM} {MA FF : Array Value} {po : Nat} {ua : Option Addr} {uc : Nat} {out : List (CF CM)} {oa : Option Addr} {k oc : Nat} (h : PutI d w wr m MA FF po ua uc out oa k oc) (hpo : w.heap.size + 3 ≤ po) {y : CF CM} {la : Option Addr} {lc : Nat} (ho : OwnM x3 (po + 1) 29 3 (FmF d) (.slice la (k + 1) lc) (out ++ [y])) (g : Grow wr x3 (.slice oa k oc) (.slice la (k + 1) lc)) : PutI d w (x3.setCell ⟨po, 0, none⟩ (.slice la (k + 1) lc)) m MA FF po ua uc (out ++ [y]) la (k + 1) lc := by
  have K : Keep (· < po + 1) wr x3 := Keep.ofGrow g (fun q (hq : q < po + 1) e => by have := (h.ho.own e).1; omega)
  have hs := g.size
  have h0 := h.hs
  have hbo : Blk x3 po 35 #[.slice oa k oc, .slice ua m.us.length uc] := h.bo.keep K (show _ < _ by omega)
  refine ⟨(h.bm.keep K (show _ < _ by omega)).other (by first | (simp; done) | (simp; omega) | omega) _, (h.bf.keep K (show _ < _ by omega)).other (by first | (simp; done) | (simp; omega) | omega) _, (h.br.keep K (show _ < _ by omega)).other (by first | (simp; done) | (simp; omega) | omega) _, (hbo.set 0 _).is (by simp), ?_, ho.keepB (famF d) (Keep.setCell _ _ _ (by simp)), by rw [List.length_append, h.ln]; rfl, ?_, by simp; omega⟩
  · exact EnsR.go h.hu (f := fun b => w.heap.size + 3 ≤ b ∧ b < po) ((K.weak (fun q hq => by show q < po + 1; have := hq.2; omega)).trans (Keep.setCell _ _ _ (by first | (simp; done) | (simp; omega) | omega))) (fun _ h => h) (fun _ h => h)
  · have h3 := K.below (B := w.heap.size) (by have := h.hb.size; omega) (fun k hk => by show k < _; omega)
    exact Below.trans h.hb (h3.setCell (by simp; omega) _)
theorem putD (d : Nat) (w : World) (Z : Nat → Prop) (cs cf : List Value) (m : CM) (f : CF CM) (h : MsgE w Z (d + 1) cs m) (hf : FldE w Z (MsgE w Z d) cf f) (hml : m.fs.length < 4000000) : Calls Tryz.prog 70 #[.agg cs.toArray, .agg cf.toArray] w (NewE (FmM (d + 1)) w (CM.mk (putE f (m.fs.foldl (putS f) ([], false))) m.us)) := by
  have HCM := hid fun W (hW : Below w.heap.size w W) => copyD (d + 1) W Z cs m (h.kept hW)
  obtain ⟨ka, kc, va, vc, rfl, g, q, l1, l2⟩ := msg_open (MsgE.old (d + 1) _ _ h)
  have HF := hid ((famF d).old hf)
  obtain ⟨ga, gc, ha, hc, rfl, -⟩ := fld_open hf
  have m1 : (m.fs.length : Int) ≤ 9223372036854775807 := by omega
  have G := hid g
  have HCC := hid (copyFieldD d (copyD d))
  clear h g q hf
  go_enter Tryz.func70, Tryz.ntmps70
  go_wp2_with fail
  refine (HCM.out _ (by exact blBy)).mono ?_
  rintro e w1 ⟨ds, rfl, hn, hbx⟩
  obtain ⟨fa, fc, ua, uc, rfl, -, gU, -⟩ := msg_open hn
  have BM0 : Hid (Blk w1 w.heap.size 35 #[.slice ka m.fs.length kc, .slice va m.us.length vc]) := hid ((((Blk.new _ _ _).kept (below_alloc _)).kept (below_alloc _)).kept hbx)
  have BF0 : Hid (Blk w1 (w.heap.size + 1) 29 #[.int .i64 f.num, .slice ga f.ks.length gc, .slice ha f.vs.length hc]) := hid (((Blk.newAt (by simp)).kept (below_alloc _)).kept hbx)
  have BR0 : Hid (Blk w1 (w.heap.size + 1 + 1) 35 #[.slice none 0 0, .slice none 0 0]) := hid ((Blk.newAt (by simp)).kept hbx)
  have HB0 : Hid (Below w.heap.size w w1) := hid (bl_then (by exact blBy) hbx)
  have HU0 : Hid (EnsR w1 (fun b => w.heap.size + 3 ≤ b ∧ b < w1.heap.size) (.slice ua m.us.length uc) m.us) := hid (EnsR.go (EnsR.old gU) (Keep.refl (fun _ => True) w1) (fun _ _ => trivial) (fun b hz => ⟨by have := hz.1; simpa using this, hz.2⟩))
  have HP0 : w.heap.size + 3 ≤ w1.heap.size := by have := hbx.size; simpa using this
  clear hbx hn gU HCM
  have HFD := fieldRun1 (.slice fa m.fs.length fc) (.slice ua m.us.length uc) w1 rfl
  go_wp2
  generalize hpo : w1.heap.size = po at *
  go_loopw [6, 7] (fun s6 s7 wr => ∃ (j k : Nat) (dn : Bool) (oa : Option Addr) (oc : Nat), s6 = .bool dn ∧ s7 = .int .i64 j ∧ j ≤ m.fs.length ∧ Hid (((m.fs.take j).foldl (putS f) ([], false)).2 = dn) ∧ Hid (k ≤ j + (if dn = true then 1 else 0)) ∧ Hid (PutI d w wr m #[.slice ka m.fs.length kc, .slice va m.us.length vc] #[.int .i64 f.num, .slice ga f.ks.length gc, .slice ha f.vs.length hc] po ua uc (((m.fs.take j).foldl (putS f) ([], false)).1) oa k oc)) (fun s6 s7 wr => m.fs.length - numAt wr s7)
  case atStart => exact ⟨0, 0, false, none, 0, rfl, rfl, by omega, hid rfl, hid (by simp), hid ⟨BM0.out.kept (below_alloc _), BF0.out.kept (below_alloc _), BR0.out.kept (below_alloc _), Blk.newAt hpo.symm, HU0.out.kept (below_alloc _), OwnM.nil _ _ _ _ _, rfl, (by have := HB0.out; exact blBy), by simp; omega⟩⟩
  case round =>
    clear BM0 BR0 HB0 HU0 BF0
    obtain ⟨j, k, dn, oa, oc, rfl, rfl, hj, HDN, HKJ, HI⟩ := hrel
    have xm := HI.out.bm.cellF
    have zm := HI.out.bm.lt
    have xf := HI.out.bf.cellF
    have zf := HI.out.bf.lt
    by_cases hlt : j < m.fs.length
    · have k2 : (j : Int) < (m.fs.length : Int) := by omega
      obtain ⟨b1, o1, pa, pc, qa, qc, rfl, hz1, hb1, c0, c1, c2, he⟩ := fls_at (G.out.kept HI.out.hb) hlt
      have HE := hid he
      have HTK : Hid ((m.fs.take (j + 1)).foldl (putS f) ([], false) = putS f ((m.fs.take j).foldl (putS f) ([], false)) m.fs[j]) := hid (by rw [List.take_succ_eq_append_getElem hlt, List.foldl_append]; rfl)
      have HLB : Hid (k ≤ 4000000 ∧ k + 1 ≤ 4000000 + (if dn = true then 1 else 0)) := hid (by have := HKJ.out; cases dn <;> simp at this ⊢ <;> omega)
      have hbl := hz1.2
      generalize m.fs[j] = x at *
      generalize (m.fs.take j).foldl (putS f) ([], false) = st at *
      obtain ⟨out, dn'⟩ := st
      obtain rfl : dn' = dn := HDN.out
      dsimp only at HI HDN
      clear he hz1 HDN
      have HOW : Hid (∀ q, (Value.slice oa k oc).ownBlock = some q → q < wr.heap.size) := hid fun q e => (HI.out.ho.own e).2
      by_cases hq : x.num = f.num
      · have k4 : (x.num == f.num) = true := by simp [hq]
        have hqn : putS f (out, dn') x = (out, dn') := by unfold putS; rw [if_pos hq]
        rw [hqn] at HTK
        go_wp2
        exact ⟨⟨j + 1, k, dn', oa, oc, rfl, by simp, by omega, hid (by rw [HTK.out]), hid (by have := HKJ.out; omega), hid (by rw [HTK.out]; exact HI.out.kept (by exact blBy))⟩, by simp [numAt]; omega⟩
      · have k4 : (x.num == f.num) = false := by simp [hq]
        have r0 : w.heap.size + 1 + 1 < wr.heap.size := HI.out.br.lt
        by_cases hc : f.num < x.num ∧ dn' = false
        · obtain ⟨hc1, rfl⟩ := hc
          have hqn : putS f (out, false) x = (out ++ [f] ++ [x], true) := by unfold putS; rw [if_neg hq, if_pos ⟨hc1, rfl⟩]
          rw [hqn] at HTK
          have k5 : (f.num < x.num) = True := eq_true hc1
          go_upto_region 9 with fail
          have HI0 : Hid (PutI d w (wr.alloc (.cells #[.int .i64 x.num, .slice pa x.ks.length pc, .slice qa x.vs.length qc] 29)) m #[.slice (some ⟨b1, o1, none⟩) m.fs.length kc, .slice va m.us.length vc] #[.int .i64 f.num, .slice ga f.ks.length gc, .slice ha f.vs.length hc] po ua uc (out) oa k oc) := hid (HI.out.kept (below_alloc _))
          have BX0 : Hid (Blk (wr.alloc (.cells #[.int .i64 x.num, .slice pa x.ks.length pc, .slice qa x.vs.length qc] 29)) wr.heap.size 29 #[.int .i64 x.num, .slice pa x.ks.length pc, .slice qa x.vs.length qc]) := hid (Blk.new _ _ _)
          have HEX : Hid (FldE (wr.alloc (.cells #[.int .i64 x.num, .slice pa x.ks.length pc, .slice qa x.vs.length qc] 29)) (fun b => Z b ∧ b < w.heap.size) (MsgE (wr.alloc (.cells #[.int .i64 x.num, .slice pa x.ks.length pc, .slice qa x.vs.length qc] 29)) (fun b => Z b ∧ b < w.heap.size) d) [.int .i64 x.num, .slice pa x.ks.length pc, .slice qa x.vs.length qc] x) := hid (HE.out.kept (below_alloc _))
          have hs0 : wr.heap.size + 1 ≤ (wr.alloc (.cells #[.int .i64 x.num, .slice pa x.ks.length pc, .slice qa x.vs.length qc] 29)).heap.size := by simp
          have hpx : po + 1 ≤ wr.heap.size := HI.out.hs
          generalize (wr.alloc (.cells #[.int .i64 x.num, .slice pa x.ks.length pc, .slice qa x.vs.length qc] 29)) = wz at *
          generalize wr.heap.size = px at *
          clear xm zm xf zf HI HE c0 c1 c2
          go_cut [] from 13 to 52 (fun wc => ∃ (oa2 : Option Addr) (oc2 : Nat), Hid (PutI d w wc m #[.slice (some ⟨b1, o1, none⟩) m.fs.length kc, .slice va m.us.length vc] #[.int .i64 f.num, .slice ga f.ks.length gc, .slice ha f.vs.length hc] po ua uc (out ++ [f]) oa2 (k + 1) oc2) ∧ Hid (Blk wc px 29 #[.int .i64 x.num, .slice pa x.ks.length pc, .slice qa x.vs.length qc]) ∧ Hid (∀ q, (Value.slice oa2 (k + 1) oc2).ownBlock = some q → q ≠ px) ∧ Hid (wz.heap.size ≤ wc.heap.size))
          case first =>
            have HSK : Hid (∀ W, Keep (· < po) wz W → (fun W => (∀ k, W.cell? ⟨w.heap.size + 1, k, none⟩ = #[.int .i64 f.num, .slice ga f.ks.length gc, .slice ha f.vs.length hc][k]?)) W) := hid (fun W hk => (HI0.out.bf.keep hk (show _ < _ by omega)).cellF)
            have xo := HI0.out.bo.cellF
            have yo := HI0.out.bo.frz
            have zo := HI0.out.bo.lt
            refine wp_region_held_drew (S := (fun W => (∀ k, W.cell? ⟨w.heap.size + 1, k, none⟩ = #[.int .i64 f.num, .slice ga f.ks.length gc, .slice ha f.vs.length hc][k]?))) (by kernel_rfl) ?_ (fun hHeld => ?_)
            · exact HSK.out _ (Keep.ofBelow (below_drew1 _))
            refine wpAnyH_take (i := 0) (v := ?_) rfl (by kernel_rfl) (by kernel_rfl) (by kernel_rfl) (fun _ _ _ h => h) (Or.inl ⟨by rfl, ?_⟩) (by assumption) ?_
            rotate_left
            · (intro w hSw; (try dsimp only at hSw); go_simp; (try with_reducible rfl))
            try go_frame
            refine wpAnyH_take (i := 2) (v := ?_) rfl (by kernel_rfl) (by kernel_rfl) (by kernel_rfl) (fun _ _ _ h => h) (Or.inl ⟨by rfl, ?_⟩) (by assumption) ?_
            rotate_left
            · (intro w hSw; (try dsimp only at hSw); go_simp; (try with_reducible rfl))
            try go_frame
            refine wpAnyH_ready (rs := [1, 3]) (by kernel_rfl) (by simp) ?_
            refine AllReadyH.cons rfl (fun K hK => ?_) ?_
            · go_simp
              refine hK.out _ _ ?_ (fun hHeld => ?_)
              · first | assumption | exact HSK.out _ (Keep.ofBelow (below_drew1 _))
              clear hK K
              try go_frame
              refine wpAnyH_ready (rs := [3]) (by kernel_rfl) (by simp) ?_
              refine AllReadyH.cons rfl (fun K hK => ?_) ?_
              · go_simp
                go_wp2_with (go_at_call 68; refine (HCC.out _ (fun b => Z b ∧ b < w.heap.size) _ f ((HF.out.kept HI0.out.hb).kept (below_drew1 _))).mono ?_; rintro e u1 ⟨ds, rfl, hn, hbu⟩; have HX1 : Hid (Below wz.heap.size wz u1) := hid (bl_then (below_drew1 _) hbu); have K1 : Hid (Keep (· < po) wz u1) := hid (Keep.ofBelow HX1.out); have HZ := hid (zof_new (famF d) HI0.out.ho (by simp) HI0.out.hs hn); have HI1 := hid (HI0.out.kept HX1.out); obtain ⟨ka2, kc2, va2, vc2, rfl, -⟩ := fld_open HZ.out; have xo1 := HI1.out.bo.cellF; have yo1 := HI1.out.bo.frz; have zo1 := HI1.out.bo.lt; have hs1 := HX1.out.size; clear hbu hn)
                refine hK.out _ _ ?_ (fun hHeld => ?_)
                · first | assumption | exact HSK.out _ (K1.out)
                clear hK K
                try go_frame
                obtain ⟨la, lc, x3, HRUN, HO2, HG⟩ := OwnM.push (famF d) 29 32 56 (.agg #[.int .i64 0, .slice none 0 0, .slice none 0 0]) Tryz.underlying32 Tryz.infoF rfl (by decide) (by decide) HI1.out.ho HZ.out (by have := HI1.out.hs; omega) (by rw [HI1.out.ln]; exact HLB.out.1)
                rw [HI1.out.ln] at HRUN HO2 HG
                refine wpAnyH_ready (rs := [4]) (by kernel_rfl) (by simp) ?_
                refine AllReadyH.cons rfl (fun K hK => ?_) ?_
                · go_simp
                  refine hK.out _ _ ?_ (fun hHeld => ?_)
                  · first | assumption | exact HSK.out _ (kpA K1.out _)
                  clear hK K
                  try go_frame
                  refine wpAnyH_ready (rs := [5]) (by kernel_rfl) (by simp) ?_
                  refine AllReadyH.cons rfl (fun K hK => ?_) ?_
                  · refine step_append_ran rfl _ _ 32 32 rfl rfl _ _ (.slice la (k + 1) lc) x3 rfl rfl HRUN.out ?_
                    have K3 : Hid (Keep (· < po) wz x3) := hid (K1.out.trans (Keep.ofGrow HG.out (fun q (hq : q < po) e => by have := (HI1.out.ho.own e).1; omega)))
                    have BO3 : Hid (Blk x3 po 35 #[.slice oa k oc, .slice ua m.us.length uc]) := hid (HI1.out.bo.keep (f := (· < po + 1)) (Keep.ofGrow HG.out (fun q (hq : q < po + 1) e => by have := (HI1.out.ho.own e).1; omega)) (show _ < _ by omega))
                    have xo3 := BO3.out.cellF
                    have yo3 := BO3.out.frz
                    have zo3 := BO3.out.lt
                    have hs3 := HG.out.size
                    refine hK.out _ _ ?_ (fun hHeld => ?_)
                    · first | assumption | exact HSK.out _ (K3.out)
                    clear hK K
                    try go_frame
                    refine wpAnyH_take (i := 6) (v := ?_) rfl (by kernel_rfl) (by kernel_rfl) (by kernel_rfl) (fun _ _ _ h => h) (Or.inl ⟨by rfl, ?_⟩) (by assumption) ?_
                    rotate_left
                    · (intro w hSw; (try dsimp only at hSw); go_simp; (try with_reducible rfl))
                    try go_frame
                    refine wpAnyH_ready (rs := [7]) (by kernel_rfl) (by simp) ?_
                    refine AllReadyH.cons rfl (fun K hK => ?_) ?_
                    · go_simp
                      refine hK.out _ _ ?_ (fun hHeld => ?_)
                      · first | assumption | exact HSK.out _ (kpS K3.out (by simp; try omega))
                      clear hK K
                      try go_frame
                      refine wpAnyH_done (by kernel_rfl) ?_ _
                      go_wp2_with fail
                      go_meet
                      exact ⟨la, lc, hid (HI1.out.step HP0 HO2.out HG.out), hid (((BX0.out.kept HX1.out).keep (f := (· = px)) (Keep.ofGrow HG.out (fun q hq e => by have := HOW.out q e; omega)) rfl).other (by simp; omega) _), hid (fun q e => by rcases HG.out.own with h1 | h1; (have := HOW.out q (h1.symm.trans e); omega); (have := h1 q e; omega)), hid (by simp; omega)⟩
                    exact AllReadyH.nil
                  exact AllReadyH.nil
                exact AllReadyH.nil
              exact AllReadyH.nil
            refine AllReadyH.cons rfl (fun K hK => ?_) ?_
            · go_simp
              go_wp2_with (go_at_call 68; refine (HCC.out _ (fun b => Z b ∧ b < w.heap.size) _ f ((HF.out.kept HI0.out.hb).kept (below_drew1 _))).mono ?_; rintro e u1 ⟨ds, rfl, hn, hbu⟩; have HX1 : Hid (Below wz.heap.size wz u1) := hid (bl_then (below_drew1 _) hbu); have K1 : Hid (Keep (· < po) wz u1) := hid (Keep.ofBelow HX1.out); have HZ := hid (zof_new (famF d) HI0.out.ho (by simp) HI0.out.hs hn); have HI1 := hid (HI0.out.kept HX1.out); obtain ⟨ka2, kc2, va2, vc2, rfl, -⟩ := fld_open HZ.out; have xo1 := HI1.out.bo.cellF; have yo1 := HI1.out.bo.frz; have zo1 := HI1.out.bo.lt; have hs1 := HX1.out.size; clear hbu hn)
              refine hK.out _ _ ?_ (fun hHeld => ?_)
              · first | assumption | exact HSK.out _ (K1.out)
              clear hK K
              try go_frame
              obtain ⟨la, lc, x3, HRUN, HO2, HG⟩ := OwnM.push (famF d) 29 32 56 (.agg #[.int .i64 0, .slice none 0 0, .slice none 0 0]) Tryz.underlying32 Tryz.infoF rfl (by decide) (by decide) HI1.out.ho HZ.out (by have := HI1.out.hs; omega) (by rw [HI1.out.ln]; exact HLB.out.1)
              rw [HI1.out.ln] at HRUN HO2 HG
              refine wpAnyH_ready (rs := [1, 4]) (by kernel_rfl) (by simp) ?_
              refine AllReadyH.cons rfl (fun K hK => ?_) ?_
              · go_simp
                refine hK.out _ _ ?_ (fun hHeld => ?_)
                · first | assumption | exact HSK.out _ (K1.out)
                clear hK K
                try go_frame
                refine wpAnyH_ready (rs := [4]) (by kernel_rfl) (by simp) ?_
                refine AllReadyH.cons rfl (fun K hK => ?_) ?_
                · go_simp
                  refine hK.out _ _ ?_ (fun hHeld => ?_)
                  · first | assumption | exact HSK.out _ (kpA K1.out _)
                  clear hK K
                  try go_frame
                  refine wpAnyH_ready (rs := [5]) (by kernel_rfl) (by simp) ?_
                  refine AllReadyH.cons rfl (fun K hK => ?_) ?_
                  · refine step_append_ran rfl _ _ 32 32 rfl rfl _ _ (.slice la (k + 1) lc) x3 rfl rfl HRUN.out ?_
                    have K3 : Hid (Keep (· < po) wz x3) := hid (K1.out.trans (Keep.ofGrow HG.out (fun q (hq : q < po) e => by have := (HI1.out.ho.own e).1; omega)))
                    have BO3 : Hid (Blk x3 po 35 #[.slice oa k oc, .slice ua m.us.length uc]) := hid (HI1.out.bo.keep (f := (· < po + 1)) (Keep.ofGrow HG.out (fun q (hq : q < po + 1) e => by have := (HI1.out.ho.own e).1; omega)) (show _ < _ by omega))
                    have xo3 := BO3.out.cellF
                    have yo3 := BO3.out.frz
                    have zo3 := BO3.out.lt
                    have hs3 := HG.out.size
                    refine hK.out _ _ ?_ (fun hHeld => ?_)
                    · first | assumption | exact HSK.out _ (K3.out)
                    clear hK K
                    try go_frame
                    refine wpAnyH_take (i := 6) (v := ?_) rfl (by kernel_rfl) (by kernel_rfl) (by kernel_rfl) (fun _ _ _ h => h) (Or.inl ⟨by rfl, ?_⟩) (by assumption) ?_
                    rotate_left
                    · (intro w hSw; (try dsimp only at hSw); go_simp; (try with_reducible rfl))
                    try go_frame
                    refine wpAnyH_ready (rs := [7]) (by kernel_rfl) (by simp) ?_
                    refine AllReadyH.cons rfl (fun K hK => ?_) ?_
                    · go_simp
                      refine hK.out _ _ ?_ (fun hHeld => ?_)
                      · first | assumption | exact HSK.out _ (kpS K3.out (by simp; try omega))
                      clear hK K
                      try go_frame
                      refine wpAnyH_done (by kernel_rfl) ?_ _
                      go_wp2_with fail
                      go_meet
                      exact ⟨la, lc, hid (HI1.out.step HP0 HO2.out HG.out), hid (((BX0.out.kept HX1.out).keep (f := (· = px)) (Keep.ofGrow HG.out (fun q hq e => by have := HOW.out q e; omega)) rfl).other (by simp; omega) _), hid (fun q e => by rcases HG.out.own with h1 | h1; (have := HOW.out q (h1.symm.trans e); omega); (have := h1 q e; omega)), hid (by simp; omega)⟩
                    exact AllReadyH.nil
                  exact AllReadyH.nil
                exact AllReadyH.nil
              refine AllReadyH.cons rfl (fun K hK => ?_) ?_
              · go_simp
                refine hK.out _ _ ?_ (fun hHeld => ?_)
                · first | assumption | exact HSK.out _ (kpA K1.out _)
                clear hK K
                try go_frame
                refine wpAnyH_ready (rs := [1]) (by kernel_rfl) (by simp) ?_
                refine AllReadyH.cons rfl (fun K hK => ?_) ?_
                · go_simp
                  refine hK.out _ _ ?_ (fun hHeld => ?_)
                  · first | assumption | exact HSK.out _ (kpA K1.out _)
                  clear hK K
                  try go_frame
                  refine wpAnyH_ready (rs := [5]) (by kernel_rfl) (by simp) ?_
                  refine AllReadyH.cons rfl (fun K hK => ?_) ?_
                  · refine step_append_ran rfl _ _ 32 32 rfl rfl _ _ (.slice la (k + 1) lc) x3 rfl rfl HRUN.out ?_
                    have K3 : Hid (Keep (· < po) wz x3) := hid (K1.out.trans (Keep.ofGrow HG.out (fun q (hq : q < po) e => by have := (HI1.out.ho.own e).1; omega)))
                    have BO3 : Hid (Blk x3 po 35 #[.slice oa k oc, .slice ua m.us.length uc]) := hid (HI1.out.bo.keep (f := (· < po + 1)) (Keep.ofGrow HG.out (fun q (hq : q < po + 1) e => by have := (HI1.out.ho.own e).1; omega)) (show _ < _ by omega))
                    have xo3 := BO3.out.cellF
                    have yo3 := BO3.out.frz
                    have zo3 := BO3.out.lt
                    have hs3 := HG.out.size
                    refine hK.out _ _ ?_ (fun hHeld => ?_)
                    · first | assumption | exact HSK.out _ (K3.out)
                    clear hK K
                    try go_frame
                    refine wpAnyH_take (i := 6) (v := ?_) rfl (by kernel_rfl) (by kernel_rfl) (by kernel_rfl) (fun _ _ _ h => h) (Or.inl ⟨by rfl, ?_⟩) (by assumption) ?_
                    rotate_left
                    · (intro w hSw; (try dsimp only at hSw); go_simp; (try with_reducible rfl))
                    try go_frame
                    refine wpAnyH_ready (rs := [7]) (by kernel_rfl) (by simp) ?_
                    refine AllReadyH.cons rfl (fun K hK => ?_) ?_
                    · go_simp
                      refine hK.out _ _ ?_ (fun hHeld => ?_)
                      · first | assumption | exact HSK.out _ (kpS K3.out (by simp; try omega))
                      clear hK K
                      try go_frame
                      refine wpAnyH_done (by kernel_rfl) ?_ _
                      go_wp2_with fail
                      go_meet
                      exact ⟨la, lc, hid (HI1.out.step HP0 HO2.out HG.out), hid (((BX0.out.kept HX1.out).keep (f := (· = px)) (Keep.ofGrow HG.out (fun q hq e => by have := HOW.out q e; omega)) rfl).other (by simp; omega) _), hid (fun q e => by rcases HG.out.own with h1 | h1; (have := HOW.out q (h1.symm.trans e); omega); (have := h1 q e; omega)), hid (by simp; omega)⟩
                    exact AllReadyH.nil
                  exact AllReadyH.nil
                exact AllReadyH.nil
              exact AllReadyH.nil
            exact AllReadyH.nil
          case rest =>
            obtain ⟨oa2, oc2, HI2, BX, HPX, HSZ⟩ := hcut
            have KZ : Hid (Keep (· < w.heap.size) wz wc) := hid ⟨HI2.out.hb.os.trans HI0.out.hb.os.symm, HI2.out.hb.tape.trans HI0.out.hb.tape.symm, HI2.out.hb.output.trans HI0.out.hb.output.symm, HSZ.out, fun k _ hk => (HI2.out.hb.block k hk).trans (HI0.out.hb.block k hk).symm⟩
            replace HEX := hid ((famF d).go HEX.out KZ.out (fun b hz => hz.2) (fun b hz => hz))
            clear KZ HI0 BX0 HOW
            generalize out ++ [f] = out2 at *
            generalize hk2 : k + 1 = k3 at *
            go_upto_region 11 with fail
            have HSK : Hid (∀ W, Keep (fun b => b < po ∨ b = px) wc W → (fun W => (∀ k, W.cell? ⟨px, k, none⟩ = #[.int .i64 x.num, .slice pa x.ks.length pc, .slice qa x.vs.length qc][k]?)) W) := hid (fun W hk => (BX.out.keep hk (Or.inr rfl)).cellF)
            have xo := HI2.out.bo.cellF
            have yo := HI2.out.bo.frz
            have zo := HI2.out.bo.lt
            refine wp_region_held_drew (S := (fun W => (∀ k, W.cell? ⟨px, k, none⟩ = #[.int .i64 x.num, .slice pa x.ks.length pc, .slice qa x.vs.length qc][k]?))) (by kernel_rfl) ?_ (fun hHeld => ?_)
            · exact HSK.out _ (Keep.ofBelow (below_drew1 _))
            refine wpAnyH_take (i := 0) (v := ?_) rfl (by kernel_rfl) (by kernel_rfl) (by kernel_rfl) (fun _ _ _ h => h) (Or.inl ⟨by rfl, ?_⟩) (by assumption) ?_
            rotate_left
            · (intro w hSw; (try dsimp only at hSw); go_simp; (try with_reducible rfl))
            try go_frame
            refine wpAnyH_take (i := 2) (v := ?_) rfl (by kernel_rfl) (by kernel_rfl) (by kernel_rfl) (fun _ _ _ h => h) (Or.inl ⟨by rfl, ?_⟩) (by assumption) ?_
            rotate_left
            · (intro w hSw; (try dsimp only at hSw); go_simp; (try with_reducible rfl))
            try go_frame
            refine wpAnyH_ready (rs := [1, 3]) (by kernel_rfl) (by simp) ?_
            refine AllReadyH.cons rfl (fun K hK => ?_) ?_
            · go_simp
              refine hK.out _ _ ?_ (fun hHeld => ?_)
              · first | assumption | exact HSK.out _ (Keep.ofBelow (below_drew1 _))
              clear hK K
              try go_frame
              refine wpAnyH_ready (rs := [3]) (by kernel_rfl) (by simp) ?_
              refine AllReadyH.cons rfl (fun K hK => ?_) ?_
              · go_simp
                go_wp2_with (go_at_call 68; refine (HCC.out _ (fun b => Z b ∧ b < w.heap.size) _ x (HEX.out.kept (below_drew1 _))).mono ?_; rintro e u1 ⟨ds, rfl, hn, hbu⟩; have HX1 : Hid (Below wc.heap.size wc u1) := hid (bl_then (below_drew1 _) hbu); have K1 : Hid (Keep (fun b => b < po ∨ b = px) wc u1) := hid (Keep.ofBelow HX1.out); have HZ := hid (zof_new (famF d) HI2.out.ho (by simp) HI2.out.hs hn); have HI1 := hid (HI2.out.kept HX1.out); obtain ⟨ka2, kc2, va2, vc2, rfl, -⟩ := fld_open HZ.out; have xo1 := HI1.out.bo.cellF; have yo1 := HI1.out.bo.frz; have zo1 := HI1.out.bo.lt; have hs1 := HX1.out.size; clear hbu hn)
                refine hK.out _ _ ?_ (fun hHeld => ?_)
                · first | assumption | exact HSK.out _ (K1.out)
                clear hK K
                try go_frame
                obtain ⟨la, lc, x3, HRUN, HO2, HG⟩ := OwnM.push (famF d) 29 32 56 (.agg #[.int .i64 0, .slice none 0 0, .slice none 0 0]) Tryz.underlying32 Tryz.infoF rfl (by decide) (by decide) HI1.out.ho HZ.out (by have := HI1.out.hs; omega) (by rw [HI1.out.ln]; exact (by have := HLB.out; simp at this; omega))
                rw [HI1.out.ln] at HRUN HO2 HG
                refine wpAnyH_ready (rs := [4]) (by kernel_rfl) (by simp) ?_
                refine AllReadyH.cons rfl (fun K hK => ?_) ?_
                · go_simp
                  refine hK.out _ _ ?_ (fun hHeld => ?_)
                  · first | assumption | exact HSK.out _ (kpA K1.out _)
                  clear hK K
                  try go_frame
                  refine wpAnyH_ready (rs := [5]) (by kernel_rfl) (by simp) ?_
                  refine AllReadyH.cons rfl (fun K hK => ?_) ?_
                  · refine step_append_ran rfl _ _ 32 32 rfl rfl _ _ (.slice la (k3 + 1) lc) x3 rfl rfl HRUN.out ?_
                    have K3 : Hid (Keep (fun b => b < po ∨ b = px) wc x3) := hid (K1.out.trans (Keep.ofGrow HG.out (fun q hq e => by rcases hq with hq | hq; (have := (HI1.out.ho.own e).1; omega); exact HPX.out q e hq)))
                    have BO3 : Hid (Blk x3 po 35 #[.slice oa2 k3 oc2, .slice ua m.us.length uc]) := hid (HI1.out.bo.keep (f := (· < po + 1)) (Keep.ofGrow HG.out (fun q (hq : q < po + 1) e => by have := (HI1.out.ho.own e).1; omega)) (show _ < _ by omega))
                    have xo3 := BO3.out.cellF
                    have yo3 := BO3.out.frz
                    have zo3 := BO3.out.lt
                    have hs3 := HG.out.size
                    refine hK.out _ _ ?_ (fun hHeld => ?_)
                    · first | assumption | exact HSK.out _ (K3.out)
                    clear hK K
                    try go_frame
                    refine wpAnyH_take (i := 6) (v := ?_) rfl (by kernel_rfl) (by kernel_rfl) (by kernel_rfl) (fun _ _ _ h => h) (Or.inl ⟨by rfl, ?_⟩) (by assumption) ?_
                    rotate_left
                    · (intro w hSw; (try dsimp only at hSw); go_simp; (try with_reducible rfl))
                    try go_frame
                    refine wpAnyH_ready (rs := [7]) (by kernel_rfl) (by simp) ?_
                    refine AllReadyH.cons rfl (fun K hK => ?_) ?_
                    · go_simp
                      refine hK.out _ _ ?_ (fun hHeld => ?_)
                      · first | assumption | exact HSK.out _ (kpS K3.out (by simp; try omega))
                      clear hK K
                      try go_frame
                      refine wpAnyH_done (by kernel_rfl) ?_ _
                      go_wp2
                      exact ⟨⟨j + 1, k3 + 1, true, la, lc, rfl, by simp, by omega, hid (by rw [HTK.out]), hid (by have := HKJ.out; simp at this ⊢; omega), hid (by rw [HTK.out]; exact HI1.out.step HP0 HO2.out HG.out)⟩, by simp [numAt]; omega⟩
                    exact AllReadyH.nil
                  exact AllReadyH.nil
                exact AllReadyH.nil
              exact AllReadyH.nil
            refine AllReadyH.cons rfl (fun K hK => ?_) ?_
            · go_simp
              go_wp2_with (go_at_call 68; refine (HCC.out _ (fun b => Z b ∧ b < w.heap.size) _ x (HEX.out.kept (below_drew1 _))).mono ?_; rintro e u1 ⟨ds, rfl, hn, hbu⟩; have HX1 : Hid (Below wc.heap.size wc u1) := hid (bl_then (below_drew1 _) hbu); have K1 : Hid (Keep (fun b => b < po ∨ b = px) wc u1) := hid (Keep.ofBelow HX1.out); have HZ := hid (zof_new (famF d) HI2.out.ho (by simp) HI2.out.hs hn); have HI1 := hid (HI2.out.kept HX1.out); obtain ⟨ka2, kc2, va2, vc2, rfl, -⟩ := fld_open HZ.out; have xo1 := HI1.out.bo.cellF; have yo1 := HI1.out.bo.frz; have zo1 := HI1.out.bo.lt; have hs1 := HX1.out.size; clear hbu hn)
              refine hK.out _ _ ?_ (fun hHeld => ?_)
              · first | assumption | exact HSK.out _ (K1.out)
              clear hK K
              try go_frame
              obtain ⟨la, lc, x3, HRUN, HO2, HG⟩ := OwnM.push (famF d) 29 32 56 (.agg #[.int .i64 0, .slice none 0 0, .slice none 0 0]) Tryz.underlying32 Tryz.infoF rfl (by decide) (by decide) HI1.out.ho HZ.out (by have := HI1.out.hs; omega) (by rw [HI1.out.ln]; exact (by have := HLB.out; simp at this; omega))
              rw [HI1.out.ln] at HRUN HO2 HG
              refine wpAnyH_ready (rs := [1, 4]) (by kernel_rfl) (by simp) ?_
              refine AllReadyH.cons rfl (fun K hK => ?_) ?_
              · go_simp
                refine hK.out _ _ ?_ (fun hHeld => ?_)
                · first | assumption | exact HSK.out _ (K1.out)
                clear hK K
                try go_frame
                refine wpAnyH_ready (rs := [4]) (by kernel_rfl) (by simp) ?_
                refine AllReadyH.cons rfl (fun K hK => ?_) ?_
                · go_simp
                  refine hK.out _ _ ?_ (fun hHeld => ?_)
                  · first | assumption | exact HSK.out _ (kpA K1.out _)
                  clear hK K
                  try go_frame
                  refine wpAnyH_ready (rs := [5]) (by kernel_rfl) (by simp) ?_
                  refine AllReadyH.cons rfl (fun K hK => ?_) ?_
                  · refine step_append_ran rfl _ _ 32 32 rfl rfl _ _ (.slice la (k3 + 1) lc) x3 rfl rfl HRUN.out ?_
                    have K3 : Hid (Keep (fun b => b < po ∨ b = px) wc x3) := hid (K1.out.trans (Keep.ofGrow HG.out (fun q hq e => by rcases hq with hq | hq; (have := (HI1.out.ho.own e).1; omega); exact HPX.out q e hq)))
                    have BO3 : Hid (Blk x3 po 35 #[.slice oa2 k3 oc2, .slice ua m.us.length uc]) := hid (HI1.out.bo.keep (f := (· < po + 1)) (Keep.ofGrow HG.out (fun q (hq : q < po + 1) e => by have := (HI1.out.ho.own e).1; omega)) (show _ < _ by omega))
                    have xo3 := BO3.out.cellF
                    have yo3 := BO3.out.frz
                    have zo3 := BO3.out.lt
                    have hs3 := HG.out.size
                    refine hK.out _ _ ?_ (fun hHeld => ?_)
                    · first | assumption | exact HSK.out _ (K3.out)
                    clear hK K
                    try go_frame
                    refine wpAnyH_take (i := 6) (v := ?_) rfl (by kernel_rfl) (by kernel_rfl) (by kernel_rfl) (fun _ _ _ h => h) (Or.inl ⟨by rfl, ?_⟩) (by assumption) ?_
                    rotate_left
                    · (intro w hSw; (try dsimp only at hSw); go_simp; (try with_reducible rfl))
                    try go_frame
                    refine wpAnyH_ready (rs := [7]) (by kernel_rfl) (by simp) ?_
                    refine AllReadyH.cons rfl (fun K hK => ?_) ?_
                    · go_simp
                      refine hK.out _ _ ?_ (fun hHeld => ?_)
                      · first | assumption | exact HSK.out _ (kpS K3.out (by simp; try omega))
                      clear hK K
                      try go_frame
                      refine wpAnyH_done (by kernel_rfl) ?_ _
                      go_wp2
                      exact ⟨⟨j + 1, k3 + 1, true, la, lc, rfl, by simp, by omega, hid (by rw [HTK.out]), hid (by have := HKJ.out; simp at this ⊢; omega), hid (by rw [HTK.out]; exact HI1.out.step HP0 HO2.out HG.out)⟩, by simp [numAt]; omega⟩
                    exact AllReadyH.nil
                  exact AllReadyH.nil
                exact AllReadyH.nil
              refine AllReadyH.cons rfl (fun K hK => ?_) ?_
              · go_simp
                refine hK.out _ _ ?_ (fun hHeld => ?_)
                · first | assumption | exact HSK.out _ (kpA K1.out _)
                clear hK K
                try go_frame
                refine wpAnyH_ready (rs := [1]) (by kernel_rfl) (by simp) ?_
                refine AllReadyH.cons rfl (fun K hK => ?_) ?_
                · go_simp
                  refine hK.out _ _ ?_ (fun hHeld => ?_)
                  · first | assumption | exact HSK.out _ (kpA K1.out _)
                  clear hK K
                  try go_frame
                  refine wpAnyH_ready (rs := [5]) (by kernel_rfl) (by simp) ?_
                  refine AllReadyH.cons rfl (fun K hK => ?_) ?_
                  · refine step_append_ran rfl _ _ 32 32 rfl rfl _ _ (.slice la (k3 + 1) lc) x3 rfl rfl HRUN.out ?_
                    have K3 : Hid (Keep (fun b => b < po ∨ b = px) wc x3) := hid (K1.out.trans (Keep.ofGrow HG.out (fun q hq e => by rcases hq with hq | hq; (have := (HI1.out.ho.own e).1; omega); exact HPX.out q e hq)))
                    have BO3 : Hid (Blk x3 po 35 #[.slice oa2 k3 oc2, .slice ua m.us.length uc]) := hid (HI1.out.bo.keep (f := (· < po + 1)) (Keep.ofGrow HG.out (fun q (hq : q < po + 1) e => by have := (HI1.out.ho.own e).1; omega)) (show _ < _ by omega))
                    have xo3 := BO3.out.cellF
                    have yo3 := BO3.out.frz
                    have zo3 := BO3.out.lt
                    have hs3 := HG.out.size
                    refine hK.out _ _ ?_ (fun hHeld => ?_)
                    · first | assumption | exact HSK.out _ (K3.out)
                    clear hK K
                    try go_frame
                    refine wpAnyH_take (i := 6) (v := ?_) rfl (by kernel_rfl) (by kernel_rfl) (by kernel_rfl) (fun _ _ _ h => h) (Or.inl ⟨by rfl, ?_⟩) (by assumption) ?_
                    rotate_left
                    · (intro w hSw; (try dsimp only at hSw); go_simp; (try with_reducible rfl))
                    try go_frame
                    refine wpAnyH_ready (rs := [7]) (by kernel_rfl) (by simp) ?_
                    refine AllReadyH.cons rfl (fun K hK => ?_) ?_
                    · go_simp
                      refine hK.out _ _ ?_ (fun hHeld => ?_)
                      · first | assumption | exact HSK.out _ (kpS K3.out (by simp; try omega))
                      clear hK K
                      try go_frame
                      refine wpAnyH_done (by kernel_rfl) ?_ _
                      go_wp2
                      exact ⟨⟨j + 1, k3 + 1, true, la, lc, rfl, by simp, by omega, hid (by rw [HTK.out]), hid (by have := HKJ.out; simp at this ⊢; omega), hid (by rw [HTK.out]; exact HI1.out.step HP0 HO2.out HG.out)⟩, by simp [numAt]; omega⟩
                    exact AllReadyH.nil
                  exact AllReadyH.nil
                exact AllReadyH.nil
              exact AllReadyH.nil
            exact AllReadyH.nil
        · have hqn : putS f (out, dn') x = (out ++ [x], dn') := by unfold putS; rw [if_neg hq, if_neg hc]
          rw [hqn] at HTK
          have hk5 : Hid ((f.num < x.num) = True ∧ dn' = true ∨ (f.num < x.num) = False) := hid (by by_cases q1 : f.num < x.num; (cases dn' with | true => exact Or.inl ⟨eq_true q1, rfl⟩ | false => exact absurd ⟨q1, rfl⟩ hc); exact Or.inr (eq_false q1))
          rcases hk5.out with ⟨k5, rfl⟩ | k5
          all_goals (
            clear hc
            go_upto_region 11 with fail
            have HI0 : Hid (PutI d w (wr.alloc (.cells #[.int .i64 x.num, .slice pa x.ks.length pc, .slice qa x.vs.length qc] 29)) m #[.slice (some ⟨b1, o1, none⟩) m.fs.length kc, .slice va m.us.length vc] #[.int .i64 f.num, .slice ga f.ks.length gc, .slice ha f.vs.length hc] po ua uc (out) oa k oc) := hid (HI.out.kept (below_alloc _))
            have BX : Hid (Blk (wr.alloc (.cells #[.int .i64 x.num, .slice pa x.ks.length pc, .slice qa x.vs.length qc] 29)) wr.heap.size 29 #[.int .i64 x.num, .slice pa x.ks.length pc, .slice qa x.vs.length qc]) := hid (Blk.new _ _ _)
            have HEX : Hid (FldE (wr.alloc (.cells #[.int .i64 x.num, .slice pa x.ks.length pc, .slice qa x.vs.length qc] 29)) (fun b => Z b ∧ b < w.heap.size) (MsgE (wr.alloc (.cells #[.int .i64 x.num, .slice pa x.ks.length pc, .slice qa x.vs.length qc] 29)) (fun b => Z b ∧ b < w.heap.size) d) [.int .i64 x.num, .slice pa x.ks.length pc, .slice qa x.vs.length qc] x) := hid (HE.out.kept (below_alloc _))
            have hs0 : wr.heap.size + 1 ≤ (wr.alloc (.cells #[.int .i64 x.num, .slice pa x.ks.length pc, .slice qa x.vs.length qc] 29)).heap.size := by simp
            have hpx : po + 1 ≤ wr.heap.size := HI.out.hs
            have HPX : Hid (∀ q, (Value.slice oa k oc).ownBlock = some q → q ≠ wr.heap.size) := hid fun q e => by have := HOW.out q e; omega
            generalize (wr.alloc (.cells #[.int .i64 x.num, .slice pa x.ks.length pc, .slice qa x.vs.length qc] 29)) = wz at *
            generalize wr.heap.size = px at *
            clear xm zm xf zf HI HE c0 c1 c2
            have HSK : Hid (∀ W, Keep (fun b => b < po ∨ b = px) wz W → (fun W => (∀ k, W.cell? ⟨px, k, none⟩ = #[.int .i64 x.num, .slice pa x.ks.length pc, .slice qa x.vs.length qc][k]?)) W) := hid (fun W hk => (BX.out.keep hk (Or.inr rfl)).cellF)
            have xo := HI0.out.bo.cellF
            have yo := HI0.out.bo.frz
            have zo := HI0.out.bo.lt
            refine wp_region_held_drew (S := (fun W => (∀ k, W.cell? ⟨px, k, none⟩ = #[.int .i64 x.num, .slice pa x.ks.length pc, .slice qa x.vs.length qc][k]?))) (by kernel_rfl) ?_ (fun hHeld => ?_)
            · exact HSK.out _ (Keep.ofBelow (below_drew1 _))
            refine wpAnyH_take (i := 0) (v := ?_) rfl (by kernel_rfl) (by kernel_rfl) (by kernel_rfl) (fun _ _ _ h => h) (Or.inl ⟨by rfl, ?_⟩) (by assumption) ?_
            rotate_left
            · (intro w hSw; (try dsimp only at hSw); go_simp; (try with_reducible rfl))
            try go_frame
            refine wpAnyH_take (i := 2) (v := ?_) rfl (by kernel_rfl) (by kernel_rfl) (by kernel_rfl) (fun _ _ _ h => h) (Or.inl ⟨by rfl, ?_⟩) (by assumption) ?_
            rotate_left
            · (intro w hSw; (try dsimp only at hSw); go_simp; (try with_reducible rfl))
            try go_frame
            refine wpAnyH_ready (rs := [1, 3]) (by kernel_rfl) (by simp) ?_
            refine AllReadyH.cons rfl (fun K hK => ?_) ?_
            · go_simp
              refine hK.out _ _ ?_ (fun hHeld => ?_)
              · first | assumption | exact HSK.out _ (Keep.ofBelow (below_drew1 _))
              clear hK K
              try go_frame
              refine wpAnyH_ready (rs := [3]) (by kernel_rfl) (by simp) ?_
              refine AllReadyH.cons rfl (fun K hK => ?_) ?_
              · go_simp
                go_wp2_with (go_at_call 68; refine (HCC.out _ (fun b => Z b ∧ b < w.heap.size) _ x (HEX.out.kept (below_drew1 _))).mono ?_; rintro e u1 ⟨ds, rfl, hn, hbu⟩; have HX1 : Hid (Below wz.heap.size wz u1) := hid (bl_then (below_drew1 _) hbu); have K1 : Hid (Keep (fun b => b < po ∨ b = px) wz u1) := hid (Keep.ofBelow HX1.out); have HZ := hid (zof_new (famF d) HI0.out.ho (by simp) HI0.out.hs hn); have HI1 := hid (HI0.out.kept HX1.out); obtain ⟨ka2, kc2, va2, vc2, rfl, -⟩ := fld_open HZ.out; have xo1 := HI1.out.bo.cellF; have yo1 := HI1.out.bo.frz; have zo1 := HI1.out.bo.lt; have hs1 := HX1.out.size; clear hbu hn)
                refine hK.out _ _ ?_ (fun hHeld => ?_)
                · first | assumption | exact HSK.out _ (K1.out)
                clear hK K
                try go_frame
                obtain ⟨la, lc, x3, HRUN, HO2, HG⟩ := OwnM.push (famF d) 29 32 56 (.agg #[.int .i64 0, .slice none 0 0, .slice none 0 0]) Tryz.underlying32 Tryz.infoF rfl (by decide) (by decide) HI1.out.ho HZ.out (by have := HI1.out.hs; omega) (by rw [HI1.out.ln]; exact HLB.out.1)
                rw [HI1.out.ln] at HRUN HO2 HG
                refine wpAnyH_ready (rs := [4]) (by kernel_rfl) (by simp) ?_
                refine AllReadyH.cons rfl (fun K hK => ?_) ?_
                · go_simp
                  refine hK.out _ _ ?_ (fun hHeld => ?_)
                  · first | assumption | exact HSK.out _ (kpA K1.out _)
                  clear hK K
                  try go_frame
                  refine wpAnyH_ready (rs := [5]) (by kernel_rfl) (by simp) ?_
                  refine AllReadyH.cons rfl (fun K hK => ?_) ?_
                  · refine step_append_ran rfl _ _ 32 32 rfl rfl _ _ (.slice la (k + 1) lc) x3 rfl rfl HRUN.out ?_
                    have K3 : Hid (Keep (fun b => b < po ∨ b = px) wz x3) := hid (K1.out.trans (Keep.ofGrow HG.out (fun q hq e => by rcases hq with hq | hq; (have := (HI1.out.ho.own e).1; omega); exact HPX.out q e hq)))
                    have BO3 : Hid (Blk x3 po 35 #[.slice oa k oc, .slice ua m.us.length uc]) := hid (HI1.out.bo.keep (f := (· < po + 1)) (Keep.ofGrow HG.out (fun q (hq : q < po + 1) e => by have := (HI1.out.ho.own e).1; omega)) (show _ < _ by omega))
                    have xo3 := BO3.out.cellF
                    have yo3 := BO3.out.frz
                    have zo3 := BO3.out.lt
                    have hs3 := HG.out.size
                    refine hK.out _ _ ?_ (fun hHeld => ?_)
                    · first | assumption | exact HSK.out _ (K3.out)
                    clear hK K
                    try go_frame
                    refine wpAnyH_take (i := 6) (v := ?_) rfl (by kernel_rfl) (by kernel_rfl) (by kernel_rfl) (fun _ _ _ h => h) (Or.inl ⟨by rfl, ?_⟩) (by assumption) ?_
                    rotate_left
                    · (intro w hSw; (try dsimp only at hSw); go_simp; (try with_reducible rfl))
                    try go_frame
                    refine wpAnyH_ready (rs := [7]) (by kernel_rfl) (by simp) ?_
                    refine AllReadyH.cons rfl (fun K hK => ?_) ?_
                    · go_simp
                      refine hK.out _ _ ?_ (fun hHeld => ?_)
                      · first | assumption | exact HSK.out _ (kpS K3.out (by simp; try omega))
                      clear hK K
                      try go_frame
                      refine wpAnyH_done (by kernel_rfl) ?_ _
                      go_wp2
                      exact ⟨⟨j + 1, k + 1, _, la, lc, rfl, by simp, by omega, hid (by rw [HTK.out]), hid (by have := HKJ.out; first | omega | (simp at this ⊢; omega) | (rename_i dn2 _ _ _ _; cases dn2 <;> simp at this ⊢ <;> omega)), hid (by rw [HTK.out]; exact HI1.out.step HP0 HO2.out HG.out)⟩, by simp [numAt]; omega⟩
                    exact AllReadyH.nil
                  exact AllReadyH.nil
                exact AllReadyH.nil
              exact AllReadyH.nil
            refine AllReadyH.cons rfl (fun K hK => ?_) ?_
            · go_simp
              go_wp2_with (go_at_call 68; refine (HCC.out _ (fun b => Z b ∧ b < w.heap.size) _ x (HEX.out.kept (below_drew1 _))).mono ?_; rintro e u1 ⟨ds, rfl, hn, hbu⟩; have HX1 : Hid (Below wz.heap.size wz u1) := hid (bl_then (below_drew1 _) hbu); have K1 : Hid (Keep (fun b => b < po ∨ b = px) wz u1) := hid (Keep.ofBelow HX1.out); have HZ := hid (zof_new (famF d) HI0.out.ho (by simp) HI0.out.hs hn); have HI1 := hid (HI0.out.kept HX1.out); obtain ⟨ka2, kc2, va2, vc2, rfl, -⟩ := fld_open HZ.out; have xo1 := HI1.out.bo.cellF; have yo1 := HI1.out.bo.frz; have zo1 := HI1.out.bo.lt; have hs1 := HX1.out.size; clear hbu hn)
              refine hK.out _ _ ?_ (fun hHeld => ?_)
              · first | assumption | exact HSK.out _ (K1.out)
              clear hK K
              try go_frame
              obtain ⟨la, lc, x3, HRUN, HO2, HG⟩ := OwnM.push (famF d) 29 32 56 (.agg #[.int .i64 0, .slice none 0 0, .slice none 0 0]) Tryz.underlying32 Tryz.infoF rfl (by decide) (by decide) HI1.out.ho HZ.out (by have := HI1.out.hs; omega) (by rw [HI1.out.ln]; exact HLB.out.1)
              rw [HI1.out.ln] at HRUN HO2 HG
              refine wpAnyH_ready (rs := [1, 4]) (by kernel_rfl) (by simp) ?_
              refine AllReadyH.cons rfl (fun K hK => ?_) ?_
              · go_simp
                refine hK.out _ _ ?_ (fun hHeld => ?_)
                · first | assumption | exact HSK.out _ (K1.out)
                clear hK K
                try go_frame
                refine wpAnyH_ready (rs := [4]) (by kernel_rfl) (by simp) ?_
                refine AllReadyH.cons rfl (fun K hK => ?_) ?_
                · go_simp
                  refine hK.out _ _ ?_ (fun hHeld => ?_)
                  · first | assumption | exact HSK.out _ (kpA K1.out _)
                  clear hK K
                  try go_frame
                  refine wpAnyH_ready (rs := [5]) (by kernel_rfl) (by simp) ?_
                  refine AllReadyH.cons rfl (fun K hK => ?_) ?_
                  · refine step_append_ran rfl _ _ 32 32 rfl rfl _ _ (.slice la (k + 1) lc) x3 rfl rfl HRUN.out ?_
                    have K3 : Hid (Keep (fun b => b < po ∨ b = px) wz x3) := hid (K1.out.trans (Keep.ofGrow HG.out (fun q hq e => by rcases hq with hq | hq; (have := (HI1.out.ho.own e).1; omega); exact HPX.out q e hq)))
                    have BO3 : Hid (Blk x3 po 35 #[.slice oa k oc, .slice ua m.us.length uc]) := hid (HI1.out.bo.keep (f := (· < po + 1)) (Keep.ofGrow HG.out (fun q (hq : q < po + 1) e => by have := (HI1.out.ho.own e).1; omega)) (show _ < _ by omega))
                    have xo3 := BO3.out.cellF
                    have yo3 := BO3.out.frz
                    have zo3 := BO3.out.lt
                    have hs3 := HG.out.size
                    refine hK.out _ _ ?_ (fun hHeld => ?_)
                    · first | assumption | exact HSK.out _ (K3.out)
                    clear hK K
                    try go_frame
                    refine wpAnyH_take (i := 6) (v := ?_) rfl (by kernel_rfl) (by kernel_rfl) (by kernel_rfl) (fun _ _ _ h => h) (Or.inl ⟨by rfl, ?_⟩) (by assumption) ?_
                    rotate_left
                    · (intro w hSw; (try dsimp only at hSw); go_simp; (try with_reducible rfl))
                    try go_frame
                    refine wpAnyH_ready (rs := [7]) (by kernel_rfl) (by simp) ?_
                    refine AllReadyH.cons rfl (fun K hK => ?_) ?_
                    · go_simp
                      refine hK.out _ _ ?_ (fun hHeld => ?_)
                      · first | assumption | exact HSK.out _ (kpS K3.out (by simp; try omega))
                      clear hK K
                      try go_frame
                      refine wpAnyH_done (by kernel_rfl) ?_ _
                      go_wp2
                      exact ⟨⟨j + 1, k + 1, _, la, lc, rfl, by simp, by omega, hid (by rw [HTK.out]), hid (by have := HKJ.out; first | omega | (simp at this ⊢; omega) | (rename_i dn2 _ _ _ _; cases dn2 <;> simp at this ⊢ <;> omega)), hid (by rw [HTK.out]; exact HI1.out.step HP0 HO2.out HG.out)⟩, by simp [numAt]; omega⟩
                    exact AllReadyH.nil
                  exact AllReadyH.nil
                exact AllReadyH.nil
              refine AllReadyH.cons rfl (fun K hK => ?_) ?_
              · go_simp
                refine hK.out _ _ ?_ (fun hHeld => ?_)
                · first | assumption | exact HSK.out _ (kpA K1.out _)
                clear hK K
                try go_frame
                refine wpAnyH_ready (rs := [1]) (by kernel_rfl) (by simp) ?_
                refine AllReadyH.cons rfl (fun K hK => ?_) ?_
                · go_simp
                  refine hK.out _ _ ?_ (fun hHeld => ?_)
                  · first | assumption | exact HSK.out _ (kpA K1.out _)
                  clear hK K
                  try go_frame
                  refine wpAnyH_ready (rs := [5]) (by kernel_rfl) (by simp) ?_
                  refine AllReadyH.cons rfl (fun K hK => ?_) ?_
                  · refine step_append_ran rfl _ _ 32 32 rfl rfl _ _ (.slice la (k + 1) lc) x3 rfl rfl HRUN.out ?_
                    have K3 : Hid (Keep (fun b => b < po ∨ b = px) wz x3) := hid (K1.out.trans (Keep.ofGrow HG.out (fun q hq e => by rcases hq with hq | hq; (have := (HI1.out.ho.own e).1; omega); exact HPX.out q e hq)))
                    have BO3 : Hid (Blk x3 po 35 #[.slice oa k oc, .slice ua m.us.length uc]) := hid (HI1.out.bo.keep (f := (· < po + 1)) (Keep.ofGrow HG.out (fun q (hq : q < po + 1) e => by have := (HI1.out.ho.own e).1; omega)) (show _ < _ by omega))
                    have xo3 := BO3.out.cellF
                    have yo3 := BO3.out.frz
                    have zo3 := BO3.out.lt
                    have hs3 := HG.out.size
                    refine hK.out _ _ ?_ (fun hHeld => ?_)
                    · first | assumption | exact HSK.out _ (K3.out)
                    clear hK K
                    try go_frame
                    refine wpAnyH_take (i := 6) (v := ?_) rfl (by kernel_rfl) (by kernel_rfl) (by kernel_rfl) (fun _ _ _ h => h) (Or.inl ⟨by rfl, ?_⟩) (by assumption) ?_
                    rotate_left
                    · (intro w hSw; (try dsimp only at hSw); go_simp; (try with_reducible rfl))
                    try go_frame
                    refine wpAnyH_ready (rs := [7]) (by kernel_rfl) (by simp) ?_
                    refine AllReadyH.cons rfl (fun K hK => ?_) ?_
                    · go_simp
                      refine hK.out _ _ ?_ (fun hHeld => ?_)
                      · first | assumption | exact HSK.out _ (kpS K3.out (by simp; try omega))
                      clear hK K
                      try go_frame
                      refine wpAnyH_done (by kernel_rfl) ?_ _
                      go_wp2
                      exact ⟨⟨j + 1, k + 1, _, la, lc, rfl, by simp, by omega, hid (by rw [HTK.out]), hid (by have := HKJ.out; first | omega | (simp at this ⊢; omega) | (rename_i dn2 _ _ _ _; cases dn2 <;> simp at this ⊢ <;> omega)), hid (by rw [HTK.out]; exact HI1.out.step HP0 HO2.out HG.out)⟩, by simp [numAt]; omega⟩
                    exact AllReadyH.nil
                  exact AllReadyH.nil
                exact AllReadyH.nil
              exact AllReadyH.nil
            exact AllReadyH.nil)
    · have k2 : ¬ (j : Int) < (m.fs.length : Int) := by omega
      have e1 : m.fs.take j = m.fs := List.take_of_length_le (by omega)
      have ej : j = m.fs.length := by omega
      rw [e1] at HI HDN
      have HRS : Hid (putE f (m.fs.foldl (putS f) ([], false)) = if dn = true then (m.fs.foldl (putS f) ([], false)).1 else (m.fs.foldl (putS f) ([], false)).1 ++ [f]) := hid (by unfold putE; rw [HDN.out])
      have HLB : Hid (k ≤ 4000000 ∧ (dn = false → k + 1 ≤ 4000000)) := hid (by have := HKJ.out; cases dn <;> simp at this ⊢ <;> omega)
      generalize (m.fs.foldl (putS f) ([], false)).1 = out at *
      clear e1 hlt hj ej HKJ HDN
      cases dn with
      | true =>
        rw [if_pos rfl] at HRS
        have HRW : Hid (FlsR wr (po + 1 ≤ ·) d (.slice oa k oc) out) := hid (HI.out.ho.row (famF d) (by rw [HI.out.ln]; exact HLB.out.1))
        have HBF := hid HI.out.hb
        have xr := HI.out.br.cellF
        have yr := HI.out.br.frz
        have zr := HI.out.br.lt
        have xo := HI.out.bo.cellF
        have zo := HI.out.bo.lt
        go_wp2
        rw [HRS.out]
        exact bodyPost_ret (v := .agg #[.slice oa k oc, .slice ua m.us.length uc]) (by simp [results, Tryz.results70, go_sem, xr, yr, zr]) rfl (NewE.mk [.slice oa k oc, .slice ua m.us.length uc] ⟨_, _, rfl, FlsR.go HRW.out (f := (w.heap.size + 3 ≤ ·)) (by with_reducible repeat (first | exact Keep.refl _ _ | refine kpS ?_ (by first | (simp; done) | (simp; omega) | omega) | refine kpA ?_ _ | refine kpD ?_ | refine kpN ?_ _)) (fun b hb => by omega) (fun k hk => by omega), EnsR.go HI.out.hu (f := (w.heap.size + 3 ≤ ·)) (by with_reducible repeat (first | exact Keep.refl _ _ | refine kpS ?_ (by first | (simp; done) | (simp; omega) | omega) | refine kpA ?_ _ | refine kpD ?_ | refine kpN ?_ _)) (fun b hb => hb.1) (fun k hk => by have := hk.1; omega)⟩ (by have := HBF.out; exact blBy))
      | false =>
        rw [if_neg (by simp)] at HRS
        have xf := HI.out.bf.cellF
        have zf := HI.out.bf.lt
        go_upto_region 13 with fail
        clear xf zf
        have HSK : Hid (∀ W, Keep (· < po) wr W → (fun W => (∀ k, W.cell? ⟨w.heap.size + 1, k, none⟩ = #[.int .i64 f.num, .slice ga f.ks.length gc, .slice ha f.vs.length hc][k]?)) W) := hid (fun W hk => (HI.out.bf.keep hk (show _ < _ by omega)).cellF)
        have xo := HI.out.bo.cellF
        have yo := HI.out.bo.frz
        have zo := HI.out.bo.lt
        refine wp_region_held_drew (S := (fun W => (∀ k, W.cell? ⟨w.heap.size + 1, k, none⟩ = #[.int .i64 f.num, .slice ga f.ks.length gc, .slice ha f.vs.length hc][k]?))) (by kernel_rfl) ?_ (fun hHeld => ?_)
        · exact HSK.out _ (Keep.ofBelow (below_drew1 _))
        refine wpAnyH_take (i := 0) (v := ?_) rfl (by kernel_rfl) (by kernel_rfl) (by kernel_rfl) (fun _ _ _ h => h) (Or.inl ⟨by rfl, ?_⟩) (by assumption) ?_
        rotate_left
        · (intro w hSw; (try dsimp only at hSw); go_simp; (try with_reducible rfl))
        try go_frame
        refine wpAnyH_take (i := 2) (v := ?_) rfl (by kernel_rfl) (by kernel_rfl) (by kernel_rfl) (fun _ _ _ h => h) (Or.inl ⟨by rfl, ?_⟩) (by assumption) ?_
        rotate_left
        · (intro w hSw; (try dsimp only at hSw); go_simp; (try with_reducible rfl))
        try go_frame
        refine wpAnyH_ready (rs := [1, 3]) (by kernel_rfl) (by simp) ?_
        refine AllReadyH.cons rfl (fun K hK => ?_) ?_
        · go_simp
          refine hK.out _ _ ?_ (fun hHeld => ?_)
          · first | assumption | exact HSK.out _ (Keep.ofBelow (below_drew1 _))
          clear hK K
          try go_frame
          refine wpAnyH_ready (rs := [3]) (by kernel_rfl) (by simp) ?_
          refine AllReadyH.cons rfl (fun K hK => ?_) ?_
          · go_simp
            go_wp2_with (go_at_call 68; refine (HCC.out _ (fun b => Z b ∧ b < w.heap.size) _ f ((HF.out.kept HI.out.hb).kept (below_drew1 _))).mono ?_; rintro e u1 ⟨ds, rfl, hn, hbu⟩; have HX1 : Hid (Below wr.heap.size wr u1) := hid (bl_then (below_drew1 _) hbu); have K1 : Hid (Keep (· < po) wr u1) := hid (Keep.ofBelow HX1.out); have HZ := hid (zof_new (famF d) HI.out.ho (by simp) HI.out.hs hn); have HI1 := hid (HI.out.kept HX1.out); obtain ⟨ka2, kc2, va2, vc2, rfl, -⟩ := fld_open HZ.out; have xo1 := HI1.out.bo.cellF; have yo1 := HI1.out.bo.frz; have zo1 := HI1.out.bo.lt; have hs1 := HX1.out.size; clear hbu hn)
            refine hK.out _ _ ?_ (fun hHeld => ?_)
            · first | assumption | exact HSK.out _ (K1.out)
            clear hK K
            try go_frame
            obtain ⟨la, lc, x3, HRUN, HO2, HG⟩ := OwnM.push (famF d) 29 32 56 (.agg #[.int .i64 0, .slice none 0 0, .slice none 0 0]) Tryz.underlying32 Tryz.infoF rfl (by decide) (by decide) HI1.out.ho HZ.out (by have := HI1.out.hs; omega) (by rw [HI1.out.ln]; exact HLB.out.1)
            rw [HI1.out.ln] at HRUN HO2 HG
            refine wpAnyH_ready (rs := [4]) (by kernel_rfl) (by simp) ?_
            refine AllReadyH.cons rfl (fun K hK => ?_) ?_
            · go_simp
              refine hK.out _ _ ?_ (fun hHeld => ?_)
              · first | assumption | exact HSK.out _ (kpA K1.out _)
              clear hK K
              try go_frame
              refine wpAnyH_ready (rs := [5]) (by kernel_rfl) (by simp) ?_
              refine AllReadyH.cons rfl (fun K hK => ?_) ?_
              · refine step_append_ran rfl _ _ 32 32 rfl rfl _ _ (.slice la (k + 1) lc) x3 rfl rfl HRUN.out ?_
                have K3 : Hid (Keep (· < po) wr x3) := hid (K1.out.trans (Keep.ofGrow HG.out (fun q (hq : q < po) e => by have := (HI1.out.ho.own e).1; omega)))
                have BO3 : Hid (Blk x3 po 35 #[.slice oa k oc, .slice ua m.us.length uc]) := hid (HI1.out.bo.keep (f := (· < po + 1)) (Keep.ofGrow HG.out (fun q (hq : q < po + 1) e => by have := (HI1.out.ho.own e).1; omega)) (show _ < _ by omega))
                have xo3 := BO3.out.cellF
                have yo3 := BO3.out.frz
                have zo3 := BO3.out.lt
                have hs3 := HG.out.size
                refine hK.out _ _ ?_ (fun hHeld => ?_)
                · first | assumption | exact HSK.out _ (K3.out)
                clear hK K
                try go_frame
                refine wpAnyH_take (i := 6) (v := ?_) rfl (by kernel_rfl) (by kernel_rfl) (by kernel_rfl) (fun _ _ _ h => h) (Or.inl ⟨by rfl, ?_⟩) (by assumption) ?_
                rotate_left
                · (intro w hSw; (try dsimp only at hSw); go_simp; (try with_reducible rfl))
                try go_frame
                refine wpAnyH_ready (rs := [7]) (by kernel_rfl) (by simp) ?_
                refine AllReadyH.cons rfl (fun K hK => ?_) ?_
                · go_simp
                  refine hK.out _ _ ?_ (fun hHeld => ?_)
                  · first | assumption | exact HSK.out _ (kpS K3.out (by simp; try omega))
                  clear hK K
                  try go_frame
                  refine wpAnyH_done (by kernel_rfl) ?_ _
                  have HI3 := hid (HI1.out.step HP0 HO2.out HG.out)
                  have HRW : Hid (FlsR _ (po + 1 ≤ ·) d (.slice la (k + 1) lc) (out ++ [f])) := hid (HI3.out.ho.row (famF d) (by rw [HI3.out.ln]; exact HLB.out.2 (by first | trivial | rfl)))
                  have HBF := hid HI3.out.hb
                  have xr := HI3.out.br.cellF
                  have yr := HI3.out.br.frz
                  have zr := HI3.out.br.lt
                  have xo4 := HI3.out.bo.cellF
                  have zo4 := HI3.out.bo.lt
                  have HU4 := hid HI3.out.hu
                  generalize (x3.setCell ⟨po, 0, none⟩ (.slice la (k + 1) lc)) = x4 at *
                  go_wp2
                  rw [HRS.out]
                  exact bodyPost_ret (v := .agg #[.slice la (k + 1) lc, .slice ua m.us.length uc]) (by simp [results, Tryz.results70, go_sem, xr, yr, zr]) rfl (NewE.mk [.slice la (k + 1) lc, .slice ua m.us.length uc] ⟨_, _, rfl, FlsR.go HRW.out (f := (w.heap.size + 3 ≤ ·)) (by with_reducible repeat (first | exact Keep.refl _ _ | refine kpS ?_ (by first | (simp; done) | (simp; omega) | omega) | refine kpA ?_ _ | refine kpD ?_ | refine kpN ?_ _)) (fun b hb => by omega) (fun k hk => by omega), EnsR.go HU4.out (f := (w.heap.size + 3 ≤ ·)) (by with_reducible repeat (first | exact Keep.refl _ _ | refine kpS ?_ (by first | (simp; done) | (simp; omega) | omega) | refine kpA ?_ _ | refine kpD ?_ | refine kpN ?_ _)) (fun b hb => hb.1) (fun k hk => by have := hk.1; omega)⟩ (by have := HBF.out; exact blBy))
                exact AllReadyH.nil
              exact AllReadyH.nil
            exact AllReadyH.nil
          exact AllReadyH.nil
        refine AllReadyH.cons rfl (fun K hK => ?_) ?_
        · go_simp
          go_wp2_with (go_at_call 68; refine (HCC.out _ (fun b => Z b ∧ b < w.heap.size) _ f ((HF.out.kept HI.out.hb).kept (below_drew1 _))).mono ?_; rintro e u1 ⟨ds, rfl, hn, hbu⟩; have HX1 : Hid (Below wr.heap.size wr u1) := hid (bl_then (below_drew1 _) hbu); have K1 : Hid (Keep (· < po) wr u1) := hid (Keep.ofBelow HX1.out); have HZ := hid (zof_new (famF d) HI.out.ho (by simp) HI.out.hs hn); have HI1 := hid (HI.out.kept HX1.out); obtain ⟨ka2, kc2, va2, vc2, rfl, -⟩ := fld_open HZ.out; have xo1 := HI1.out.bo.cellF; have yo1 := HI1.out.bo.frz; have zo1 := HI1.out.bo.lt; have hs1 := HX1.out.size; clear hbu hn)
          refine hK.out _ _ ?_ (fun hHeld => ?_)
          · first | assumption | exact HSK.out _ (K1.out)
          clear hK K
          try go_frame
          obtain ⟨la, lc, x3, HRUN, HO2, HG⟩ := OwnM.push (famF d) 29 32 56 (.agg #[.int .i64 0, .slice none 0 0, .slice none 0 0]) Tryz.underlying32 Tryz.infoF rfl (by decide) (by decide) HI1.out.ho HZ.out (by have := HI1.out.hs; omega) (by rw [HI1.out.ln]; exact HLB.out.1)
          rw [HI1.out.ln] at HRUN HO2 HG
          refine wpAnyH_ready (rs := [1, 4]) (by kernel_rfl) (by simp) ?_
          refine AllReadyH.cons rfl (fun K hK => ?_) ?_
          · go_simp
            refine hK.out _ _ ?_ (fun hHeld => ?_)
            · first | assumption | exact HSK.out _ (K1.out)
            clear hK K
            try go_frame
            refine wpAnyH_ready (rs := [4]) (by kernel_rfl) (by simp) ?_
            refine AllReadyH.cons rfl (fun K hK => ?_) ?_
            · go_simp
              refine hK.out _ _ ?_ (fun hHeld => ?_)
              · first | assumption | exact HSK.out _ (kpA K1.out _)
              clear hK K
              try go_frame
              refine wpAnyH_ready (rs := [5]) (by kernel_rfl) (by simp) ?_
              refine AllReadyH.cons rfl (fun K hK => ?_) ?_
              · refine step_append_ran rfl _ _ 32 32 rfl rfl _ _ (.slice la (k + 1) lc) x3 rfl rfl HRUN.out ?_
                have K3 : Hid (Keep (· < po) wr x3) := hid (K1.out.trans (Keep.ofGrow HG.out (fun q (hq : q < po) e => by have := (HI1.out.ho.own e).1; omega)))
                have BO3 : Hid (Blk x3 po 35 #[.slice oa k oc, .slice ua m.us.length uc]) := hid (HI1.out.bo.keep (f := (· < po + 1)) (Keep.ofGrow HG.out (fun q (hq : q < po + 1) e => by have := (HI1.out.ho.own e).1; omega)) (show _ < _ by omega))
                have xo3 := BO3.out.cellF
                have yo3 := BO3.out.frz
                have zo3 := BO3.out.lt
                have hs3 := HG.out.size
                refine hK.out _ _ ?_ (fun hHeld => ?_)
                · first | assumption | exact HSK.out _ (K3.out)
                clear hK K
                try go_frame
                refine wpAnyH_take (i := 6) (v := ?_) rfl (by kernel_rfl) (by kernel_rfl) (by kernel_rfl) (fun _ _ _ h => h) (Or.inl ⟨by rfl, ?_⟩) (by assumption) ?_
                rotate_left
                · (intro w hSw; (try dsimp only at hSw); go_simp; (try with_reducible rfl))
                try go_frame
                refine wpAnyH_ready (rs := [7]) (by kernel_rfl) (by simp) ?_
                refine AllReadyH.cons rfl (fun K hK => ?_) ?_
                · go_simp
                  refine hK.out _ _ ?_ (fun hHeld => ?_)
                  · first | assumption | exact HSK.out _ (kpS K3.out (by simp; try omega))
                  clear hK K
                  try go_frame
                  refine wpAnyH_done (by kernel_rfl) ?_ _
                  have HI3 := hid (HI1.out.step HP0 HO2.out HG.out)
                  have HRW : Hid (FlsR _ (po + 1 ≤ ·) d (.slice la (k + 1) lc) (out ++ [f])) := hid (HI3.out.ho.row (famF d) (by rw [HI3.out.ln]; exact HLB.out.2 (by first | trivial | rfl)))
                  have HBF := hid HI3.out.hb
                  have xr := HI3.out.br.cellF
                  have yr := HI3.out.br.frz
                  have zr := HI3.out.br.lt
                  have xo4 := HI3.out.bo.cellF
                  have zo4 := HI3.out.bo.lt
                  have HU4 := hid HI3.out.hu
                  generalize (x3.setCell ⟨po, 0, none⟩ (.slice la (k + 1) lc)) = x4 at *
                  go_wp2
                  rw [HRS.out]
                  exact bodyPost_ret (v := .agg #[.slice la (k + 1) lc, .slice ua m.us.length uc]) (by simp [results, Tryz.results70, go_sem, xr, yr, zr]) rfl (NewE.mk [.slice la (k + 1) lc, .slice ua m.us.length uc] ⟨_, _, rfl, FlsR.go HRW.out (f := (w.heap.size + 3 ≤ ·)) (by with_reducible repeat (first | exact Keep.refl _ _ | refine kpS ?_ (by first | (simp; done) | (simp; omega) | omega) | refine kpA ?_ _ | refine kpD ?_ | refine kpN ?_ _)) (fun b hb => by omega) (fun k hk => by omega), EnsR.go HU4.out (f := (w.heap.size + 3 ≤ ·)) (by with_reducible repeat (first | exact Keep.refl _ _ | refine kpS ?_ (by first | (simp; done) | (simp; omega) | omega) | refine kpA ?_ _ | refine kpD ?_ | refine kpN ?_ _)) (fun b hb => hb.1) (fun k hk => by have := hk.1; omega)⟩ (by have := HBF.out; exact blBy))
                exact AllReadyH.nil
              exact AllReadyH.nil
            exact AllReadyH.nil
          refine AllReadyH.cons rfl (fun K hK => ?_) ?_
          · go_simp
            refine hK.out _ _ ?_ (fun hHeld => ?_)
            · first | assumption | exact HSK.out _ (kpA K1.out _)
            clear hK K
            try go_frame
            refine wpAnyH_ready (rs := [1]) (by kernel_rfl) (by simp) ?_
            refine AllReadyH.cons rfl (fun K hK => ?_) ?_
            · go_simp
              refine hK.out _ _ ?_ (fun hHeld => ?_)
              · first | assumption | exact HSK.out _ (kpA K1.out _)
              clear hK K
              try go_frame
              refine wpAnyH_ready (rs := [5]) (by kernel_rfl) (by simp) ?_
              refine AllReadyH.cons rfl (fun K hK => ?_) ?_
              · refine step_append_ran rfl _ _ 32 32 rfl rfl _ _ (.slice la (k + 1) lc) x3 rfl rfl HRUN.out ?_
                have K3 : Hid (Keep (· < po) wr x3) := hid (K1.out.trans (Keep.ofGrow HG.out (fun q (hq : q < po) e => by have := (HI1.out.ho.own e).1; omega)))
                have BO3 : Hid (Blk x3 po 35 #[.slice oa k oc, .slice ua m.us.length uc]) := hid (HI1.out.bo.keep (f := (· < po + 1)) (Keep.ofGrow HG.out (fun q (hq : q < po + 1) e => by have := (HI1.out.ho.own e).1; omega)) (show _ < _ by omega))
                have xo3 := BO3.out.cellF
                have yo3 := BO3.out.frz
                have zo3 := BO3.out.lt
                have hs3 := HG.out.size
                refine hK.out _ _ ?_ (fun hHeld => ?_)
                · first | assumption | exact HSK.out _ (K3.out)
                clear hK K
                try go_frame
                refine wpAnyH_take (i := 6) (v := ?_) rfl (by kernel_rfl) (by kernel_rfl) (by kernel_rfl) (fun _ _ _ h => h) (Or.inl ⟨by rfl, ?_⟩) (by assumption) ?_
                rotate_left
                · (intro w hSw; (try dsimp only at hSw); go_simp; (try with_reducible rfl))
                try go_frame
                refine wpAnyH_ready (rs := [7]) (by kernel_rfl) (by simp) ?_
                refine AllReadyH.cons rfl (fun K hK => ?_) ?_
                · go_simp
                  refine hK.out _ _ ?_ (fun hHeld => ?_)
                  · first | assumption | exact HSK.out _ (kpS K3.out (by simp; try omega))
                  clear hK K
                  try go_frame
                  refine wpAnyH_done (by kernel_rfl) ?_ _
                  have HI3 := hid (HI1.out.step HP0 HO2.out HG.out)
                  have HRW : Hid (FlsR _ (po + 1 ≤ ·) d (.slice la (k + 1) lc) (out ++ [f])) := hid (HI3.out.ho.row (famF d) (by rw [HI3.out.ln]; exact HLB.out.2 (by first | trivial | rfl)))
                  have HBF := hid HI3.out.hb
                  have xr := HI3.out.br.cellF
                  have yr := HI3.out.br.frz
                  have zr := HI3.out.br.lt
                  have xo4 := HI3.out.bo.cellF
                  have zo4 := HI3.out.bo.lt
                  have HU4 := hid HI3.out.hu
                  generalize (x3.setCell ⟨po, 0, none⟩ (.slice la (k + 1) lc)) = x4 at *
                  go_wp2
                  rw [HRS.out]
                  exact bodyPost_ret (v := .agg #[.slice la (k + 1) lc, .slice ua m.us.length uc]) (by simp [results, Tryz.results70, go_sem, xr, yr, zr]) rfl (NewE.mk [.slice la (k + 1) lc, .slice ua m.us.length uc] ⟨_, _, rfl, FlsR.go HRW.out (f := (w.heap.size + 3 ≤ ·)) (by with_reducible repeat (first | exact Keep.refl _ _ | refine kpS ?_ (by first | (simp; done) | (simp; omega) | omega) | refine kpA ?_ _ | refine kpD ?_ | refine kpN ?_ _)) (fun b hb => by omega) (fun k hk => by omega), EnsR.go HU4.out (f := (w.heap.size + 3 ≤ ·)) (by with_reducible repeat (first | exact Keep.refl _ _ | refine kpS ?_ (by first | (simp; done) | (simp; omega) | omega) | refine kpA ?_ _ | refine kpD ?_ | refine kpN ?_ _)) (fun b hb => hb.1) (fun k hk => by have := hk.1; omega)⟩ (by have := HBF.out; exact blBy))
                exact AllReadyH.nil
              exact AllReadyH.nil
            exact AllReadyH.nil
          exact AllReadyH.nil
        exact AllReadyH.nil
end Go.Proofs.YtgephggcgopfgaaGreatDoor
