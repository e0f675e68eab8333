/-
  The document's Copy of values, where that of messages is known.
  Values whose messages lie in rows of their own, apart from all else.
-/
import Derived.Test.YtnfdlnelfnigdaaGreatDoorCCLa
namespace Go.Proofs.YtnfdlnelfnigdaaGreatDoor
open Go.RowKit
set_option maxRecDepth 1000000
set_option linter.unusedVariables false
set_option linter.unusedSimpArgs false
set_option maxHeartbeats 4000000
theorem VlsR.old {w : World} {Z : Nat → Prop} {d : Nat} {v : Value} {xs : List (CV CM)} (h : VlsR w Z d v xs) : VlsR w (fun b => Z b ∧ b < w.heap.size) d v xs := RowM.old (by decide) h (fun cs x _ hx => (famV d).old hx)
theorem copyValsD (d : Nat) (HC : CdAt d) (w : World) (Z : Nat → Prop) (xs : List (CV CM)) (a : Option Addr) (c : Nat) (h : VlsR w Z d (.slice a xs.length c) xs) : Calls Tryz.prog 91 #[.slice a xs.length c] w (NewL 3 (FmV d) w xs) := by
  obtain ⟨_, _, e1, l1⟩ := RowM.sl h
  clear e1
  have m1 : (xs.length : Int) ≤ 9223372036854775807 := by omega
  have H1 := hid (VlsR.old h)
  have HCC := hid HC
  clear h HC
  go_enter Tryz.func91, Tryz.ntmps91
  go_wp2
  go_loopw [3, 4] (fun s3 s4 wr => ∃ (j : Nat) (oa : Option Addr) (oc : Nat), s3 = .slice oa j oc ∧ s4 = .int .i64 j ∧ j ≤ xs.length ∧ Hid (OwnM wr w.heap.size 26 3 (FmV d) (.slice oa j oc) (xs.take j)) ∧ Hid (Below w.heap.size w wr)) (fun s3 s4 wr => xs.length - numAt wr s4)
  case atStart => exact ⟨0, none, 0, rfl, rfl, by omega, hid (OwnM.nil _ _ _ _ _), hid (Below.refl _ _)⟩
  case round =>
    obtain ⟨j, oa, oc, rfl, rfl, hj, HO, hb⟩ := hrel
    obtain ⟨wo, hwo⟩ : ∃ x, x = wr := ⟨_, rfl⟩
    subst hwo
    by_cases hlt : j < xs.length
    · have k2 : (j : Int) < (xs.length : Int) := by omega
      obtain ⟨b1, o1, ba, bc, ma, mc, rfl, hz1, hb1, c0, c1, c2, he⟩ := vls_at (H1.out.kept hb.out) hlt
      obtain ⟨_, _, _, _, e5, g1, q1, bl1, ml1, hu⟩ := val_open he
      simp only [List.cons.injEq, Value.slice.injEq, true_and, and_true] at e5
      obtain ⟨⟨rfl, rfl⟩, rfl, rfl⟩ := e5
      have HQ := hid q1
      have HU := hid hu
      have HTK : Hid (xs.take (j + 1) = xs.take j ++ [xs[j]]) := hid (List.take_succ_eq_append_getElem hlt)
      have HLN : Hid ((xs.take j).length = j) := hid (by simp; omega)
      generalize xs[j] = x at *
      have m2 : (x.ms.length : Int) ≤ 9223372036854775807 := by omega
      have hbl := hz1.2
      have hsz := hb.out.size
      have HG1 := hid g1
      clear he hz1 g1 q1 hu
      go_upto_region 6 with fail
      have BV : Hid (Blk (wo.alloc (.cells #[.int .u64 x.n, .slice none 0 0, .slice none 0 0] 26)) wo.heap.size 26 #[.int .u64 x.n, .slice none 0 0, .slice none 0 0]) := hid (Blk.new _ _ _)
      have HW1 : Hid (Below wo.heap.size wo (wo.alloc (.cells #[.int .u64 x.n, .slice none 0 0, .slice none 0 0] 26))) := hid (below_alloc _)
      have HS1 : Hid ((wo.alloc (.cells #[.int .u64 x.n, .slice none 0 0, .slice none 0 0] 26)).heap.size = wo.heap.size + 1) := hid (by simp)
      have C2 := hid c2
      replace c0 := cell_below c0 HW1.out
      replace c1 := cell_below c1 HW1.out
      replace c2 := cell_below c2 HW1.out
      generalize (wo.alloc (.cells #[.int .u64 x.n, .slice none 0 0, .slice none 0 0] 26)) = wa at *
      have xv := BV.out.cellF
      have yv := BV.out.frz
      have zv := BV.out.lt
      have HSK : Hid (∀ W, Keep (· < wo.heap.size) wa W → (fun W => W.cell? ⟨b1, o1 + j * 3, none⟩ = some (.int .u64 x.n) ∧ W.cell? ⟨b1, o1 + j * 3 + 1, none⟩ = some (.slice ba x.b.length bc) ∧ W.cell? ⟨b1, o1 + j * 3 + 2, none⟩ = some (.slice ma x.ms.length mc)) W) := hid fun W hk => ⟨cell_kp c0 hk (show _ < _ by omega), cell_kp c1 hk (show _ < _ by omega), cell_kp c2 hk (show _ < _ by omega)⟩
      obtain ⟨a', c', x2, hr, hB1, hB2⟩ := appendBy (HG1.out.kept (below_trans HW1.out (below_drew1 wa)))
      have HR := hid hr
      have HBY : Hid (ByE x2 (wo.heap.size + 1 ≤ ·) (.slice a' x.b.length c') x.b) := hid (hB1.weak (fun k hk => by have := HS1.out; simp at hk; omega))
      have HX2 : Hid (Below wa.heap.size wa x2) := hid (bl_then (below_drew1 _) hB2)
      have BV2 := hid (BV.out.kept HX2.out)
      have xv2 := BV2.out.cellF
      have yv2 := BV2.out.frz
      have zv2 := BV2.out.lt
      clear hr hB1 hB2
      refine wp_region_held_drew (S := (fun W => W.cell? ⟨b1, o1 + j * 3, none⟩ = some (.int .u64 x.n) ∧ W.cell? ⟨b1, o1 + j * 3 + 1, none⟩ = some (.slice ba x.b.length bc) ∧ W.cell? ⟨b1, o1 + j * 3 + 2, none⟩ = some (.slice ma x.ms.length mc))) (by kernel_rfl) ?_ (fun hHeld => ?_)
      · exact HSK.out _ (Keep.ofBelow (below_drew1 _))
      refine wpAnyH_take (i := 0) (v := ?_) rfl (by kernel_rfl) (by kernel_rfl) (by kernel_rfl) (fun _ _ _ h => h) (Or.inl ⟨by rfl, ?_⟩) (by assumption) ?_
      rotate_left
      · (intro w hSw; (try dsimp only at hSw); go_simp; (try with_reducible rfl))
      try simp only [Act.put, List.getElem_toArray, List.getElem_cons_succ, List.getElem_cons_zero, List.setIfInBounds_toArray, List.set_cons_zero, List.set_cons_succ]
      refine wpAnyH_take (i := 2) (v := ?_) rfl (by kernel_rfl) (by kernel_rfl) (by kernel_rfl) (fun _ _ _ h => h) (Or.inl ⟨by rfl, ?_⟩) (by assumption) ?_
      rotate_left
      · (intro w hSw; (try dsimp only at hSw); go_simp; (try with_reducible rfl))
      try simp only [Act.put, List.getElem_toArray, List.getElem_cons_succ, List.getElem_cons_zero, List.setIfInBounds_toArray, List.set_cons_zero, List.set_cons_succ]
      refine wpAnyH_take (i := 3) (v := ?_) rfl (by kernel_rfl) (by kernel_rfl) (by kernel_rfl) (fun _ _ _ h => h) (Or.inl ⟨by rfl, ?_⟩) (by assumption) ?_
      rotate_left
      · (intro w hSw; (try dsimp only at hSw); go_simp; (try with_reducible rfl))
      try simp only [Act.put, List.getElem_toArray, List.getElem_cons_succ, List.getElem_cons_zero, List.setIfInBounds_toArray, List.set_cons_zero, List.set_cons_succ]
      refine wpAnyH_take (i := 4) (v := ?_) rfl (by kernel_rfl) (by kernel_rfl) (by kernel_rfl) (fun _ _ _ h => h) (Or.inl ⟨by rfl, ?_⟩) (by assumption) ?_
      rotate_left
      · (intro w hSw; (try dsimp only at hSw); go_simp; (try with_reducible rfl))
      try simp only [Act.put, List.getElem_toArray, List.getElem_cons_succ, List.getElem_cons_zero, List.setIfInBounds_toArray, List.set_cons_zero, List.set_cons_succ]
      refine wpAnyH_take (i := 5) (v := ?_) rfl (by kernel_rfl) (by kernel_rfl) (by kernel_rfl) (fun _ _ _ h => h) (Or.inl ⟨by rfl, ?_⟩) (by assumption) ?_
      rotate_left
      · (intro w hSw; (try dsimp only at hSw); go_simp; (try with_reducible rfl))
      try simp only [Act.put, List.getElem_toArray, List.getElem_cons_succ, List.getElem_cons_zero, List.setIfInBounds_toArray, List.set_cons_zero, List.set_cons_succ]
      refine wpAnyH_take (i := 6) (v := ?_) rfl (by kernel_rfl) (by kernel_rfl) (by kernel_rfl) (fun _ _ _ h => h) (Or.inl ⟨by rfl, ?_⟩) (by assumption) ?_
      rotate_left
      · (intro w hSw; (try dsimp only at hSw); go_simp; (try with_reducible rfl))
      try simp only [Act.put, List.getElem_toArray, List.getElem_cons_succ, List.getElem_cons_zero, List.setIfInBounds_toArray, List.set_cons_zero, List.set_cons_succ]
      refine wpAnyH_ready (rs := [1]) (by kernel_rfl) (by simp) ?_
      refine AllReadyH.cons rfl (fun K hK => ?_) AllReadyH.nil
      go_simp
      refine hK.out _ _ ?_ (fun hHeld => ?_)
      · first | assumption | exact HSK.out _ (Keep.ofBelow (below_drew1 _))
      clear hK K
      try simp only [Act.put, List.getElem_toArray, List.getElem_cons_succ, List.getElem_cons_zero, List.setIfInBounds_toArray, List.set_cons_zero, List.set_cons_succ]
      refine wpAnyH_ready (rs := [7]) (by kernel_rfl) (by simp) ?_
      refine AllReadyH.cons rfl (fun K hK => ?_) AllReadyH.nil
      refine step_append_ran rfl _ _ 23 23 rfl rfl _ _ (.slice a' x.b.length c') x2 rfl rfl HR.out ?_
      refine hK.out _ _ ?_ (fun hHeld => ?_)
      · first | assumption | exact HSK.out _ (Keep.ofBelow HX2.out)
      clear hK K
      try simp only [Act.put, List.getElem_toArray, List.getElem_cons_succ, List.getElem_cons_zero, List.setIfInBounds_toArray, List.set_cons_zero, List.set_cons_succ]
      refine wpAnyH_take (i := 8) (v := ?_) rfl (by kernel_rfl) (by kernel_rfl) (by kernel_rfl) (fun _ _ _ h => h) (Or.inl ⟨by rfl, ?_⟩) (by assumption) ?_
      rotate_left
      · (intro w hSw; (try dsimp only at hSw); go_simp; (try with_reducible rfl))
      try simp only [Act.put, List.getElem_toArray, List.getElem_cons_succ, List.getElem_cons_zero, List.setIfInBounds_toArray, List.set_cons_zero, List.set_cons_succ]
      refine wpAnyH_ready (rs := [9]) (by kernel_rfl) (by simp) ?_
      refine AllReadyH.cons rfl (fun K hK => ?_) AllReadyH.nil
      go_simp
      refine hK.out _ _ ?_ (fun hHeld => ?_)
      · first | assumption | exact HSK.out _ (kpS (Keep.ofBelow HX2.out) (by simp))
      clear hK K
      try simp only [Act.put, List.getElem_toArray, List.getElem_cons_succ, List.getElem_cons_zero, List.setIfInBounds_toArray, List.set_cons_zero, List.set_cons_succ]
      refine wpAnyH_done (by kernel_rfl) ?_ _
      have BV3 : Hid (Blk (x2.setCell ⟨wo.heap.size, 1, none⟩ (.slice a' x.b.length c')) wo.heap.size 26 #[.int .u64 x.n, .slice a' x.b.length c', .slice none 0 0]) := hid ((BV2.out.set 1 _).is (by simp))
      have HBW : Hid (Below wo.heap.size wo (x2.setCell ⟨wo.heap.size, 1, none⟩ (.slice a' x.b.length c'))) := hid ((HW1.out.trans (HX2.out.mono HW1.out.size)).setCell (by simp) _)
      have HBY3 : Hid (ByE (x2.setCell ⟨wo.heap.size, 1, none⟩ (.slice a' x.b.length c')) (wo.heap.size + 1 ≤ ·) (.slice a' x.b.length c') x.b) := hid (HBY.out.keep (Keep.setCell _ _ _ (by simp)) (fun _ h => h))
      have HSZ : Hid (wo.heap.size + 1 ≤ (x2.setCell ⟨wo.heap.size, 1, none⟩ (.slice a' x.b.length c')).heap.size) := hid (by have := HX2.out.size; have := HS1.out; simp; omega)
      clear xv yv zv xv2 yv2 zv2 BV BV2 HW1 HX2 HR HBY HSK HS1 HG1
      generalize (x2.setCell ⟨wo.heap.size, 1, none⟩ (.slice a' x.b.length c')) = wb at *
      have HBYo := hid (HBY3.out.old)
      have HSN : Hid (wo.heap.size + 1 ≤ wb.heap.size) := HSZ
      generalize hN1 : wb.heap.size = N1 at *
      have HN1 := hid hN1
      clear c0 c1 c2
      go_wp2
      go_loopw [6] (fun s6 wr => ∃ (k : Nat) (va : Option Addr) (vc : Nat), s6 = .int .i64 k ∧ k ≤ x.ms.length ∧ Hid (Blk wr wo.heap.size 26 #[.int .u64 x.n, .slice a' x.b.length c', .slice va k vc]) ∧ Hid (ByE wr (fun b => wo.heap.size + 1 ≤ b ∧ b < N1) (.slice a' x.b.length c') x.b) ∧ Hid (OwnM wr N1 35 2 (FmM d) (.slice va k vc) (x.ms.take k)) ∧ Hid (Below wo.heap.size wo wr) ∧ Hid (N1 ≤ wr.heap.size)) (fun s6 wr => x.ms.length - numAt wr s6)
      case atStart => exact ⟨0, none, 0, rfl, by omega, BV3, HBYo, hid (OwnM.nil _ _ _ _ _), HBW, hid (by have := HN1.out; omega)⟩
      case round =>
        clear BV3 HBYo HBW HN1 hN1 HSZ HBY3
        obtain ⟨k, va, vc, rfl, hk, BV, HBY, HM, HB, HS⟩ := hrel
        have xv := BV.out.cellF
        have yv := BV.out.frz
        have zv := BV.out.lt
        have c2 := cell_below C2.out HB.out
        have hb1 : b1 < wr.heap.size := World.block_lt_of_cell? _ _ c2
        by_cases hkl : k < x.ms.length
        · have k3 : (k : Int) < (x.ms.length : Int) := by omega
          obtain ⟨p1, r1, fa, fc, ua, uc, rfl, hz2, hp1, m10, m11, hm⟩ := mgs_at' (HQ.out.kept HB.out) hkl
          have HE := hid hm
          have HTM : Hid (x.ms.take (k + 1) = x.ms.take k ++ [x.ms[k]]) := hid (List.take_succ_eq_append_getElem hkl)
          have HLM : Hid ((x.ms.take k).length = k) := hid (by simp; omega)
          generalize x.ms[k] = z at *
          have hp2 := hz2.2
          have HSK : Hid (∀ W, Keep (· < wo.heap.size) wr W → (fun W => W.cell? ⟨b1, o1 + j * 3 + 2, none⟩ = some (.slice (some ⟨p1, r1, none⟩) x.ms.length mc) ∧ W.cell? ⟨p1, r1 + k * 2, none⟩ = some (.slice fa z.fs.length fc) ∧ W.cell? ⟨p1, r1 + k * 2 + 1, none⟩ = some (.slice ua z.us.length uc)) W) := hid fun W hkk => ⟨cell_kp c2 hkk (show _ < _ by omega), cell_kp m10 hkk (show _ < _ by omega), cell_kp m11 hkk (show _ < _ by omega)⟩
          clear hm hz2
          go_upto_region 10 with fail
          refine wp_region_held_drew (S := (fun W => W.cell? ⟨b1, o1 + j * 3 + 2, none⟩ = some (.slice (some ⟨p1, r1, none⟩) x.ms.length mc) ∧ W.cell? ⟨p1, r1 + k * 2, none⟩ = some (.slice fa z.fs.length fc) ∧ W.cell? ⟨p1, r1 + k * 2 + 1, none⟩ = some (.slice ua z.us.length uc))) (by kernel_rfl) ?_ (fun hHeld => ?_)
          · exact HSK.out _ (Keep.ofBelow (below_drew1 _))
          refine wpAnyH_take (i := 0) (v := ?_) rfl (by kernel_rfl) (by kernel_rfl) (by kernel_rfl) (fun _ _ _ h => h) (Or.inl ⟨by rfl, ?_⟩) (by assumption) ?_
          rotate_left
          · (intro w hSw; (try dsimp only at hSw); go_simp; (try with_reducible rfl))
          try simp only [Act.put, List.getElem_toArray, List.getElem_cons_succ, List.getElem_cons_zero, List.setIfInBounds_toArray, List.set_cons_zero, List.set_cons_succ]
          refine wpAnyH_take (i := 2) (v := ?_) rfl (by kernel_rfl) (by kernel_rfl) (by kernel_rfl) (fun _ _ _ h => h) (Or.inl ⟨by rfl, ?_⟩) (by assumption) ?_
          rotate_left
          · (intro w hSw; (try dsimp only at hSw); go_simp; (try with_reducible rfl))
          try simp only [Act.put, List.getElem_toArray, List.getElem_cons_succ, List.getElem_cons_zero, List.setIfInBounds_toArray, List.set_cons_zero, List.set_cons_succ]
          refine wpAnyH_take (i := 3) (v := ?_) rfl (by kernel_rfl) (by kernel_rfl) (by kernel_rfl) (fun _ _ _ h => h) (Or.inl ⟨by rfl, ?_⟩) (by assumption) ?_
          rotate_left
          · (intro w hSw; (try dsimp only at hSw); go_simp; (try with_reducible rfl))
          try simp only [Act.put, List.getElem_toArray, List.getElem_cons_succ, List.getElem_cons_zero, List.setIfInBounds_toArray, List.set_cons_zero, List.set_cons_succ]
          refine wpAnyH_take (i := 4) (v := ?_) rfl (by kernel_rfl) (by kernel_rfl) (by kernel_rfl) (fun _ _ _ h => h) (Or.inl ⟨by rfl, ?_⟩) (by assumption) ?_
          rotate_left
          · (intro w hSw; (try dsimp only at hSw); go_simp; (try with_reducible rfl))
          try simp only [Act.put, List.getElem_toArray, List.getElem_cons_succ, List.getElem_cons_zero, List.setIfInBounds_toArray, List.set_cons_zero, List.set_cons_succ]
          refine wpAnyH_take (i := 5) (v := ?_) rfl (by kernel_rfl) (by kernel_rfl) (by kernel_rfl) (fun _ _ _ h => h) (Or.inl ⟨by rfl, ?_⟩) (by assumption) ?_
          rotate_left
          · (intro w hSw; (try dsimp only at hSw); go_simp; (try with_reducible rfl))
          try simp only [Act.put, List.getElem_toArray, List.getElem_cons_succ, List.getElem_cons_zero, List.setIfInBounds_toArray, List.set_cons_zero, List.set_cons_succ]
          refine wpAnyH_take (i := 6) (v := ?_) rfl (by kernel_rfl) (by kernel_rfl) (by kernel_rfl) (fun _ _ _ h => h) (Or.inl ⟨by rfl, ?_⟩) (by assumption) ?_
          rotate_left
          · (intro w hSw; (try dsimp only at hSw); go_simp; (try with_reducible rfl))
          try simp only [Act.put, List.getElem_toArray, List.getElem_cons_succ, List.getElem_cons_zero, List.setIfInBounds_toArray, List.set_cons_zero, List.set_cons_succ]
          refine wpAnyH_take (i := 7) (v := ?_) rfl (by kernel_rfl) (by kernel_rfl) (by kernel_rfl) (fun _ _ _ h => h) (Or.inl ⟨by rfl, ?_⟩) (by assumption) ?_
          rotate_left
          · (intro w hSw; (try dsimp only at hSw); go_simp; (try with_reducible rfl))
          try simp only [Act.put, List.getElem_toArray, List.getElem_cons_succ, List.getElem_cons_zero, List.setIfInBounds_toArray, List.set_cons_zero, List.set_cons_succ]
          refine wpAnyH_take (i := 8) (v := ?_) rfl (by kernel_rfl) (by kernel_rfl) (by kernel_rfl) (fun _ _ _ h => h) (Or.inl ⟨by rfl, ?_⟩) (by assumption) ?_
          rotate_left
          · (intro w hSw; (try dsimp only at hSw); go_simp; (try with_reducible rfl))
          try simp only [Act.put, List.getElem_toArray, List.getElem_cons_succ, List.getElem_cons_zero, List.setIfInBounds_toArray, List.set_cons_zero, List.set_cons_succ]
          refine wpAnyH_take (i := 9) (v := ?_) rfl (by kernel_rfl) (by kernel_rfl) (by kernel_rfl) (fun _ _ _ h => h) (Or.inl ⟨by rfl, ?_⟩) (by assumption) ?_
          rotate_left
          · (intro w hSw; (try dsimp only at hSw); go_simp; (try with_reducible rfl))
          try simp only [Act.put, List.getElem_toArray, List.getElem_cons_succ, List.getElem_cons_zero, List.setIfInBounds_toArray, List.set_cons_zero, List.set_cons_succ]
          refine wpAnyH_ready (rs := [1, 10]) (by kernel_rfl) (by simp) ?_
          refine AllReadyH.cons rfl (fun K hK => ?_) ?_
          · go_simp
            refine hK.out _ _ ?_ (fun hHeld => ?_)
            · first | assumption | exact HSK.out _ (Keep.ofBelow (below_drew1 _))
            clear hK K
            try simp only [Act.put, List.getElem_toArray, List.getElem_cons_succ, List.getElem_cons_zero, List.setIfInBounds_toArray, List.set_cons_zero, List.set_cons_succ]
            refine wpAnyH_ready (rs := [10]) (by kernel_rfl) (by simp) ?_
            refine AllReadyH.cons rfl (fun K hK => ?_) ?_
            · go_simp
              go_wp2_with (go_at_call 124; refine (HCC.out _ (fun b => Z b ∧ b < w.heap.size) _ z (HE.out.kept (below_drew1 _))).mono ?_; rintro e u1 ⟨ds, rfl, hn, hbu⟩; have HX1 : Hid (Below wr.heap.size wr u1) := hid (bl_then (below_drew1 _) hbu); have K1 : Hid (Keep (· < wo.heap.size) wr u1) := hid (Keep.ofBelow HX1.out); have HZ := hid (zof_new (famM d) HM.out (by simp) HS.out hn); have HO1 := hid (HM.out.kept (famM d) HX1.out); obtain ⟨ka2, kc2, va2, vc2, rfl, -⟩ := msg_openD HZ.out; have BV1 := hid (BV.out.kept HX1.out); have xv1 := BV1.out.cellF; have yv1 := BV1.out.frz; have zv1 := BV1.out.lt; have hs1 := HX1.out.size; clear hbu hn)
              refine hK.out _ _ ?_ (fun hHeld => ?_)
              · first | assumption | exact HSK.out _ (K1.out)
              clear hK K
              try simp only [Act.put, List.getElem_toArray, List.getElem_cons_succ, List.getElem_cons_zero, List.setIfInBounds_toArray, List.set_cons_zero, List.set_cons_succ]
              obtain ⟨la, lc, x3, HRUN, HO2, HG⟩ := OwnM.push (famM d) 35 24 48 (.agg #[.slice none 0 0, .slice none 0 0]) Tryz.underlying24 Tryz.infoM rfl (by decide) (by decide) HO1.out HZ.out (by have := HS.out; omega) (by rw [HLM.out]; omega)
              rw [HLM.out] at HRUN HO2 HG
              refine wpAnyH_ready (rs := [11]) (by kernel_rfl) (by simp) ?_
              refine AllReadyH.cons rfl (fun K hK => ?_) ?_
              · go_simp
                refine hK.out _ _ ?_ (fun hHeld => ?_)
                · first | assumption | exact HSK.out _ (kpA K1.out _)
                clear hK K
                try simp only [Act.put, List.getElem_toArray, List.getElem_cons_succ, List.getElem_cons_zero, List.setIfInBounds_toArray, List.set_cons_zero, List.set_cons_succ]
                refine wpAnyH_ready (rs := [12]) (by kernel_rfl) (by simp) ?_
                refine AllReadyH.cons rfl (fun K hK => ?_) ?_
                · refine step_append_ran rfl _ _ 24 24 rfl rfl _ _ (.slice la (k + 1) lc) x3 rfl rfl HRUN.out ?_
                  have KG : Hid (Keep (· < N1) u1 x3) := hid (Keep.ofGrow HG.out (fun q (hq : q < N1) e => by have := (HO1.out.own e).1; omega))
                  have K3 : Hid (Keep (· < wo.heap.size) wr x3) := hid (K1.out.trans (KG.out.weak (fun q (hq : q < wo.heap.size) => by have := HSN.out; show q < N1; omega)))
                  have BV3 : Hid (Blk x3 wo.heap.size 26 #[.int .u64 x.n, .slice a' x.b.length c', .slice va k vc]) := hid (BV1.out.keep KG.out (by show _ < _; have := HSN.out; omega))
                  have xv3 := BV3.out.cellF
                  have yv3 := BV3.out.frz
                  have zv3 := BV3.out.lt
                  have hs3 := HG.out.size
                  refine hK.out _ _ ?_ (fun hHeld => ?_)
                  · first | assumption | exact HSK.out _ (K3.out)
                  clear hK K
                  try simp only [Act.put, List.getElem_toArray, List.getElem_cons_succ, List.getElem_cons_zero, List.setIfInBounds_toArray, List.set_cons_zero, List.set_cons_succ]
                  refine wpAnyH_take (i := 13) (v := ?_) rfl (by kernel_rfl) (by kernel_rfl) (by kernel_rfl) (fun _ _ _ h => h) (Or.inl ⟨by rfl, ?_⟩) (by assumption) ?_
                  rotate_left
                  · (intro w hSw; (try dsimp only at hSw); go_simp; (try with_reducible rfl))
                  try simp only [Act.put, List.getElem_toArray, List.getElem_cons_succ, List.getElem_cons_zero, List.setIfInBounds_toArray, List.set_cons_zero, List.set_cons_succ]
                  refine wpAnyH_ready (rs := [14]) (by kernel_rfl) (by simp) ?_
                  refine AllReadyH.cons rfl (fun K hK => ?_) ?_
                  · go_simp
                    refine hK.out _ _ ?_ (fun hHeld => ?_)
                    · first | assumption | exact HSK.out _ (kpS K3.out (by simp))
                    clear hK K
                    try simp only [Act.put, List.getElem_toArray, List.getElem_cons_succ, List.getElem_cons_zero, List.setIfInBounds_toArray, List.set_cons_zero, List.set_cons_succ]
                    refine wpAnyH_done (by kernel_rfl) ?_ _
                    go_wp2
                    exact ⟨⟨k + 1, la, lc, by simp, by omega, hid ((BV3.out.set 2 _).is (by simp)), hid (HBY.out.keep (f := fun b => wo.heap.size + 1 ≤ b ∧ b < N1) ((Keep.ofBelow HX1.out).trans ((KG.out.weak (fun q hq => hq.2)).trans (Keep.setCell _ _ _ (by first | (simp; done) | (simp; omega) | omega)))) (fun _ h => h)), hid (by rw [HTM.out]; exact HO2.out.keepB (famM d) (Keep.setCell _ _ _ (by have := HSN.out; simp; omega))), hid (Below.trans HB.out (Below.trans (HX1.out.mono HB.out.size) (by have h3 := KG.out.below (B := wo.heap.size) (by have := HB.out.size; omega) (fun k hk => by show k < _; have := HSN.out; omega); exact h3.setCell (by simp) _))), hid (by have := HS.out; simp; omega)⟩, by simp [numAt]; omega⟩
                  exact AllReadyH.nil
                exact AllReadyH.nil
              exact AllReadyH.nil
            exact AllReadyH.nil
          refine AllReadyH.cons rfl (fun K hK => ?_) ?_
          · go_simp
            go_wp2_with (go_at_call 124; refine (HCC.out _ (fun b => Z b ∧ b < w.heap.size) _ z (HE.out.kept (below_drew1 _))).mono ?_; rintro e u1 ⟨ds, rfl, hn, hbu⟩; have HX1 : Hid (Below wr.heap.size wr u1) := hid (bl_then (below_drew1 _) hbu); have K1 : Hid (Keep (· < wo.heap.size) wr u1) := hid (Keep.ofBelow HX1.out); have HZ := hid (zof_new (famM d) HM.out (by simp) HS.out hn); have HO1 := hid (HM.out.kept (famM d) HX1.out); obtain ⟨ka2, kc2, va2, vc2, rfl, -⟩ := msg_openD HZ.out; have BV1 := hid (BV.out.kept HX1.out); have xv1 := BV1.out.cellF; have yv1 := BV1.out.frz; have zv1 := BV1.out.lt; have hs1 := HX1.out.size; clear hbu hn)
            refine hK.out _ _ ?_ (fun hHeld => ?_)
            · first | assumption | exact HSK.out _ (K1.out)
            clear hK K
            try simp only [Act.put, List.getElem_toArray, List.getElem_cons_succ, List.getElem_cons_zero, List.setIfInBounds_toArray, List.set_cons_zero, List.set_cons_succ]
            obtain ⟨la, lc, x3, HRUN, HO2, HG⟩ := OwnM.push (famM d) 35 24 48 (.agg #[.slice none 0 0, .slice none 0 0]) Tryz.underlying24 Tryz.infoM rfl (by decide) (by decide) HO1.out HZ.out (by have := HS.out; omega) (by rw [HLM.out]; omega)
            rw [HLM.out] at HRUN HO2 HG
            refine wpAnyH_ready (rs := [1, 11]) (by kernel_rfl) (by simp) ?_
            refine AllReadyH.cons rfl (fun K hK => ?_) ?_
            · go_simp
              refine hK.out _ _ ?_ (fun hHeld => ?_)
              · first | assumption | exact HSK.out _ (K1.out)
              clear hK K
              try simp only [Act.put, List.getElem_toArray, List.getElem_cons_succ, List.getElem_cons_zero, List.setIfInBounds_toArray, List.set_cons_zero, List.set_cons_succ]
              refine wpAnyH_ready (rs := [11]) (by kernel_rfl) (by simp) ?_
              refine AllReadyH.cons rfl (fun K hK => ?_) ?_
              · go_simp
                refine hK.out _ _ ?_ (fun hHeld => ?_)
                · first | assumption | exact HSK.out _ (kpA K1.out _)
                clear hK K
                try simp only [Act.put, List.getElem_toArray, List.getElem_cons_succ, List.getElem_cons_zero, List.setIfInBounds_toArray, List.set_cons_zero, List.set_cons_succ]
                refine wpAnyH_ready (rs := [12]) (by kernel_rfl) (by simp) ?_
                refine AllReadyH.cons rfl (fun K hK => ?_) ?_
                · refine step_append_ran rfl _ _ 24 24 rfl rfl _ _ (.slice la (k + 1) lc) x3 rfl rfl HRUN.out ?_
                  have KG : Hid (Keep (· < N1) u1 x3) := hid (Keep.ofGrow HG.out (fun q (hq : q < N1) e => by have := (HO1.out.own e).1; omega))
                  have K3 : Hid (Keep (· < wo.heap.size) wr x3) := hid (K1.out.trans (KG.out.weak (fun q (hq : q < wo.heap.size) => by have := HSN.out; show q < N1; omega)))
                  have BV3 : Hid (Blk x3 wo.heap.size 26 #[.int .u64 x.n, .slice a' x.b.length c', .slice va k vc]) := hid (BV1.out.keep KG.out (by show _ < _; have := HSN.out; omega))
                  have xv3 := BV3.out.cellF
                  have yv3 := BV3.out.frz
                  have zv3 := BV3.out.lt
                  have hs3 := HG.out.size
                  refine hK.out _ _ ?_ (fun hHeld => ?_)
                  · first | assumption | exact HSK.out _ (K3.out)
                  clear hK K
                  try simp only [Act.put, List.getElem_toArray, List.getElem_cons_succ, List.getElem_cons_zero, List.setIfInBounds_toArray, List.set_cons_zero, List.set_cons_succ]
                  refine wpAnyH_take (i := 13) (v := ?_) rfl (by kernel_rfl) (by kernel_rfl) (by kernel_rfl) (fun _ _ _ h => h) (Or.inl ⟨by rfl, ?_⟩) (by assumption) ?_
                  rotate_left
                  · (intro w hSw; (try dsimp only at hSw); go_simp; (try with_reducible rfl))
                  try simp only [Act.put, List.getElem_toArray, List.getElem_cons_succ, List.getElem_cons_zero, List.setIfInBounds_toArray, List.set_cons_zero, List.set_cons_succ]
                  refine wpAnyH_ready (rs := [14]) (by kernel_rfl) (by simp) ?_
                  refine AllReadyH.cons rfl (fun K hK => ?_) ?_
                  · go_simp
                    refine hK.out _ _ ?_ (fun hHeld => ?_)
                    · first | assumption | exact HSK.out _ (kpS K3.out (by simp))
                    clear hK K
                    try simp only [Act.put, List.getElem_toArray, List.getElem_cons_succ, List.getElem_cons_zero, List.setIfInBounds_toArray, List.set_cons_zero, List.set_cons_succ]
                    refine wpAnyH_done (by kernel_rfl) ?_ _
                    go_wp2
                    exact ⟨⟨k + 1, la, lc, by simp, by omega, hid ((BV3.out.set 2 _).is (by simp)), hid (HBY.out.keep (f := fun b => wo.heap.size + 1 ≤ b ∧ b < N1) ((Keep.ofBelow HX1.out).trans ((KG.out.weak (fun q hq => hq.2)).trans (Keep.setCell _ _ _ (by first | (simp; done) | (simp; omega) | omega)))) (fun _ h => h)), hid (by rw [HTM.out]; exact HO2.out.keepB (famM d) (Keep.setCell _ _ _ (by have := HSN.out; simp; omega))), hid (Below.trans HB.out (Below.trans (HX1.out.mono HB.out.size) (by have h3 := KG.out.below (B := wo.heap.size) (by have := HB.out.size; omega) (fun k hk => by show k < _; have := HSN.out; omega); exact h3.setCell (by simp) _))), hid (by have := HS.out; simp; omega)⟩, by simp [numAt]; omega⟩
                  exact AllReadyH.nil
                exact AllReadyH.nil
              exact AllReadyH.nil
            refine AllReadyH.cons rfl (fun K hK => ?_) ?_
            · go_simp
              refine hK.out _ _ ?_ (fun hHeld => ?_)
              · first | assumption | exact HSK.out _ (kpA K1.out _)
              clear hK K
              try simp only [Act.put, List.getElem_toArray, List.getElem_cons_succ, List.getElem_cons_zero, List.setIfInBounds_toArray, List.set_cons_zero, List.set_cons_succ]
              refine wpAnyH_ready (rs := [1]) (by kernel_rfl) (by simp) ?_
              refine AllReadyH.cons rfl (fun K hK => ?_) ?_
              · go_simp
                refine hK.out _ _ ?_ (fun hHeld => ?_)
                · first | assumption | exact HSK.out _ (kpA K1.out _)
                clear hK K
                try simp only [Act.put, List.getElem_toArray, List.getElem_cons_succ, List.getElem_cons_zero, List.setIfInBounds_toArray, List.set_cons_zero, List.set_cons_succ]
                refine wpAnyH_ready (rs := [12]) (by kernel_rfl) (by simp) ?_
                refine AllReadyH.cons rfl (fun K hK => ?_) ?_
                · refine step_append_ran rfl _ _ 24 24 rfl rfl _ _ (.slice la (k + 1) lc) x3 rfl rfl HRUN.out ?_
                  have KG : Hid (Keep (· < N1) u1 x3) := hid (Keep.ofGrow HG.out (fun q (hq : q < N1) e => by have := (HO1.out.own e).1; omega))
                  have K3 : Hid (Keep (· < wo.heap.size) wr x3) := hid (K1.out.trans (KG.out.weak (fun q (hq : q < wo.heap.size) => by have := HSN.out; show q < N1; omega)))
                  have BV3 : Hid (Blk x3 wo.heap.size 26 #[.int .u64 x.n, .slice a' x.b.length c', .slice va k vc]) := hid (BV1.out.keep KG.out (by show _ < _; have := HSN.out; omega))
                  have xv3 := BV3.out.cellF
                  have yv3 := BV3.out.frz
                  have zv3 := BV3.out.lt
                  have hs3 := HG.out.size
                  refine hK.out _ _ ?_ (fun hHeld => ?_)
                  · first | assumption | exact HSK.out _ (K3.out)
                  clear hK K
                  try simp only [Act.put, List.getElem_toArray, List.getElem_cons_succ, List.getElem_cons_zero, List.setIfInBounds_toArray, List.set_cons_zero, List.set_cons_succ]
                  refine wpAnyH_take (i := 13) (v := ?_) rfl (by kernel_rfl) (by kernel_rfl) (by kernel_rfl) (fun _ _ _ h => h) (Or.inl ⟨by rfl, ?_⟩) (by assumption) ?_
                  rotate_left
                  · (intro w hSw; (try dsimp only at hSw); go_simp; (try with_reducible rfl))
                  try simp only [Act.put, List.getElem_toArray, List.getElem_cons_succ, List.getElem_cons_zero, List.setIfInBounds_toArray, List.set_cons_zero, List.set_cons_succ]
                  refine wpAnyH_ready (rs := [14]) (by kernel_rfl) (by simp) ?_
                  refine AllReadyH.cons rfl (fun K hK => ?_) ?_
                  · go_simp
                    refine hK.out _ _ ?_ (fun hHeld => ?_)
                    · first | assumption | exact HSK.out _ (kpS K3.out (by simp))
                    clear hK K
                    try simp only [Act.put, List.getElem_toArray, List.getElem_cons_succ, List.getElem_cons_zero, List.setIfInBounds_toArray, List.set_cons_zero, List.set_cons_succ]
                    refine wpAnyH_done (by kernel_rfl) ?_ _
                    go_wp2
                    exact ⟨⟨k + 1, la, lc, by simp, by omega, hid ((BV3.out.set 2 _).is (by simp)), hid (HBY.out.keep (f := fun b => wo.heap.size + 1 ≤ b ∧ b < N1) ((Keep.ofBelow HX1.out).trans ((KG.out.weak (fun q hq => hq.2)).trans (Keep.setCell _ _ _ (by first | (simp; done) | (simp; omega) | omega)))) (fun _ h => h)), hid (by rw [HTM.out]; exact HO2.out.keepB (famM d) (Keep.setCell _ _ _ (by have := HSN.out; simp; omega))), hid (Below.trans HB.out (Below.trans (HX1.out.mono HB.out.size) (by have h3 := KG.out.below (B := wo.heap.size) (by have := HB.out.size; omega) (fun k hk => by show k < _; have := HSN.out; omega); exact h3.setCell (by simp) _))), hid (by have := HS.out; simp; omega)⟩, by simp [numAt]; omega⟩
                  exact AllReadyH.nil
                exact AllReadyH.nil
              exact AllReadyH.nil
            exact AllReadyH.nil
          exact AllReadyH.nil
        · have k3 : ¬ (k : Int) < (x.ms.length : Int) := by omega
          have ek : k = x.ms.length := by omega
          subst ek
          have e1 : x.ms.take x.ms.length = x.ms := List.take_length
          rw [e1] at HM
          have HMR := hid (HM.out.row (famM d) ml1)
          have HVE : FmV d wr (wo.heap.size + 1 ≤ ·) [.int .u64 x.n, .slice a' x.b.length c', .slice va x.ms.length vc] x := ⟨_, _, rfl, HBY.out.weak (fun _ h => h.1), MgsR.go HMR.out (Keep.refl (fun _ => True) wr) (fun _ _ => trivial) (fun b hb => by have := HSN.out; omega), HU.out⟩
          have HO1 := hid (HO.out.kept (famV d) HB.out)
          have HZ : Hid (FmV d wr (Zof wr w.heap.size (.slice oa j oc)) [.int .u64 x.n, .slice a' x.b.length c', .slice va x.ms.length vc] x) := hid ((famV d).go ((famV d).old HVE) (Keep.refl (fun _ => True) wr) (fun _ _ => trivial) (fun b hz => ⟨by have := hz.1; omega, hz.2, fun e => by have := (HO.out.own e).2; have := hz.1; omega⟩))
          have hb2 : Hid (Below w.heap.size w wr) := hid (hb.out.trans (HB.out.mono hsz))
          obtain ⟨la, lc, x3, HRUN, HO2, HG⟩ := OwnM.push (famV d) 26 27 56 (.agg #[.int .u64 0, .slice none 0 0, .slice none 0 0]) Tryz.underlying27 Tryz.infoV rfl (by decide) (by decide) HO1.out HZ.out hb2.out.size (by rw [HLN.out]; omega)
          rw [HLN.out] at HRUN HO2 HG
          have hb3 : Hid (Below w.heap.size w x3) := hid (hb2.out.trans (HO1.out.bel HG.out (Nat.le_refl _) hb2.out.size))
          clear e1 HVE HM hkl hk
          go_wp2_with (first | (at_builtin; refine wpList_append_ran rfl _ _ 27 27 rfl rfl _ _ (.slice la (j + 1) lc) x3 rfl rfl HRUN.out ?_))
          exact ⟨⟨j + 1, la, lc, rfl, by simp, by omega, hid (by rw [HTK.out]; exact HO2.out), hb3⟩, by simp [numAt]; omega⟩
    · have k2 : ¬ (j : Int) < (xs.length : Int) := by omega
      have ej : xs.length = j := by omega
      have e1 : xs.take j = xs := List.take_of_length_le (by omega)
      rw [e1] at HO
      have HRW := hid (HO.out.row (famV d) l1)
      have HEJ := hid ej
      clear ej e1
      go_wp2
      go_ret
      exact NewL.mk oa oc j HEJ.out.symm HRW.out hb.out
set_option maxHeartbeats 1000000
/-- A value, and where it lies: from lo on, below hi, its message's row in b. -/
structure VS where
  v : CV CM
  lo : Nat
  b : Nat
  hi : Nat
def Zin (Z : Nat → Prop) (x : VS) (q : Nat) : Prop := Z q ∧ x.lo ≤ q ∧ q < x.hi ∧ q ≠ x.b
/-- A value's cells; at most one message, in a row of its own. -/
def VlS (d : Nat) (w : World) (Z : Nat → Prop) (cs : List Value) (x : VS) : Prop :=
  ∃ ba bc ma mc, cs = [.int .u64 x.v.n, .slice ba x.v.b.length bc, .slice ma x.v.ms.length mc] ∧ U64 x.v.n ∧ ByE w (Zin Z x) (.slice ba x.v.b.length bc) x.v.b ∧
    ((x.v.ms = [] ∧ RowM w (fun q => Z q ∧ x.lo ≤ q ∧ q < x.hi) 2 (fun (_ : List Value) (_ : CM) => True) (.slice ma x.v.ms.length mc) x.v.ms) ∨
      ∃ z s1 s2 rest, x.v.ms = [z] ∧ ma = some ⟨x.b, 0, none⟩ ∧ 1 ≤ mc ∧ mc ≤ 9223372036854775807 ∧ Z x.b ∧ x.lo ≤ x.b ∧ x.b < x.hi ∧ Blk w x.b 35 (s1 :: s2 :: rest).toArray ∧ MsgE w (Zin Z x) d [s1, s2] z)
theorem zin_mono {Z Z' : Nat → Prop} {x : VS} (hz : ∀ k, Z k → Z' k) (q : Nat) (h : Zin Z x q) : Zin Z' x q := ⟨hz q h.1, h.2⟩
theorem famVS (d : Nat) : Fam 3 (VlS d) where
  go h g hf hz := by
    obtain ⟨ba, bc, ma, mc, e, hu, hb, hm⟩ := h
    refine ⟨ba, bc, ma, mc, e, hu, (hb.keep g (fun k hk => hf k hk.1)).weak (zin_mono hz), ?_⟩
    rcases hm with ⟨h0, hr⟩ | ⟨z, s1, s2, rest, h1, h2, h3, h3', h4, h5, h6, B, hm⟩
    · exact .inl ⟨h0, (hr.keep g (fun k hk => hf k hk.1)).weak (fun k hk => ⟨hz k hk.1, hk.2⟩)⟩
    · exact .inr ⟨z, s1, s2, rest, h1, h2, h3, h3', hz _ h4, h5, h6, B.keep g (hf _ h4), MsgE.go g (fun k hk => hf k hk.1) (zin_mono hz) d _ _ hm⟩
  old h := by
    obtain ⟨ba, bc, ma, mc, e, hu, hb, hm⟩ := h
    refine ⟨ba, bc, ma, mc, e, hu, hb.old.weak (fun k hk => ⟨⟨hk.1.1, hk.2⟩, hk.1.2⟩), ?_⟩
    rcases hm with ⟨h0, hr⟩ | ⟨z, s1, s2, rest, h1, h2, h3, h3', h4, h5, h6, B, hm⟩
    · exact .inl ⟨h0, (RowM.old (by decide) hr (fun cs x _ hx => trivial) : _).weak (fun k hk => ⟨⟨hk.1.1, hk.2⟩, hk.1.2⟩)⟩
    · exact .inr ⟨z, s1, s2, rest, h1, h2, h3, h3', ⟨h4, B.lt⟩, h5, h6, B, MsgE.go (Keep.refl (fun _ => True) _) (fun _ _ => trivial) (fun k hk => ⟨⟨hk.1.1, hk.2⟩, hk.1.2⟩) d _ _ (MsgE.old d _ _ hm)⟩
  one h u hu := by
    obtain ⟨ba, bc, ma, mc, rfl, _⟩ := h
    simp at hu
    rcases hu with rfl | rfl | rfl <;> rfl
  len h := by
    obtain ⟨ba, bc, ma, mc, rfl, _⟩ := h
    rfl
/-- The values of a list, one behind the other in memory. -/
structure TsOk (base H : Nat) (ts : List VS) (xs : List (CV CM)) : Prop where
  vs : ts.map VS.v = xs
  pw : ts.Pairwise (fun p q => p.hi ≤ q.lo)
  b : ∀ p ∈ ts, base ≤ p.lo ∧ p.lo ≤ p.hi ∧ p.hi ≤ H
theorem TsOk.nil (base H : Nat) : TsOk base H [] [] := ⟨rfl, List.Pairwise.nil, fun p hp => by simp at hp⟩
theorem TsOk.len {base H : Nat} {ts : List VS} {xs : List (CV CM)} (h : TsOk base H ts xs) : ts.length = xs.length := by rw [← h.vs, List.length_map]
theorem TsOk.push {base H H' : Nat} {ts : List VS} {xs : List (CV CM)} (h : TsOk base H ts xs) (y : VS) (hl : H ≤ y.lo) (hb : base ≤ H) (h1 : y.lo ≤ y.hi) (h2 : y.hi ≤ H') : TsOk base H' (ts ++ [y]) (xs ++ [y.v]) := by
  refine ⟨by rw [List.map_append, h.vs]; rfl, ?_, fun p hp => ?_⟩
  · rw [List.pairwise_append]
    refine ⟨h.pw, by simp, fun p hp q hq => ?_⟩
    have := (h.b p hp).2.2
    simp at hq
    subst hq
    omega
  · rcases List.mem_append.1 hp with hp | hp
    · have := h.b p hp; omega
    · simp at hp; subst hp; omega
/-- What a row of one message of one's own holds. -/
theorem own_one {w : World} {base d : Nat} {va : Option Addr} {vc : Nat} {z : CM} (h : OwnM w base 35 2 (FmM d) (.slice va 1 vc) [z]) : ∃ g s1 s2 rest, va = some ⟨g, 0, none⟩ ∧ 1 ≤ vc ∧ vc ≤ 9223372036854775807 ∧ base ≤ g ∧ g < w.heap.size ∧ Blk w g 35 (s1 :: s2 :: rest).toArray ∧ MsgE w (fun q => base ≤ q ∧ q < w.heap.size ∧ q ≠ g) d [s1, s2] z := by
  obtain ⟨ts, ho, hl, he⟩ := h
  match ts, hl with
  | [t], _ =>
    obtain ⟨cs, hcs⟩ := t
    have hE := he 0 ⟨cs, hcs⟩ z rfl rfl
    obtain ⟨fv, uv, rfl⟩ : ∃ fv uv, cs = [fv, uv] := by
      match cs, hcs with
      | [a, b], _ => exact ⟨a, b, rfl⟩
    rcases ho.2 with ⟨h0, h1⟩ | ⟨g, cap, cur, e, hbg, hg, hnc, hcm, hcs2, htake⟩
    · simp at h1
    · cases e
      refine ⟨g, fv, uv, cur.toList.drop 2, rfl, hnc, by unfold maxLen at hcm; omega, hbg, (Array.getElem?_eq_some_iff.1 hg).1, ?_, ?_⟩
      · have : (fv :: uv :: cur.toList.drop 2).toArray = cur := by
          have h2 : cur.toList.take 2 = [fv, uv] := by simpa using htake
          have h3 := List.take_append_drop 2 cur.toList
          rw [h2] at h3
          rw [show fv :: uv :: cur.toList.drop 2 = [fv, uv] ++ cur.toList.drop 2 from rfl, h3]
        rw [this]
        exact hg
      · refine MsgE.go (Keep.refl (fun _ => True) _) (fun _ _ => trivial) (fun k hk => ?_) d _ _ hE
        exact ⟨hk.1, hk.2.1, fun e => hk.2.2 (by rw [e]; rfl)⟩
theorem vls_make {wr : World} {x : CV CM} {N0 N1 d : Nat} {a' va : Option Addr} {c' vc : Nat} (hx1 : x.ms.length ≤ 1) (hu : U64 x.n) (hsn : N0 + 1 ≤ N1) (hss : N1 ≤ wr.heap.size) (HB2 : ByE wr (fun b => N0 + 1 ≤ b ∧ b < N1) (.slice a' x.b.length c') x.b) (HM2 : OwnM wr N1 35 2 (FmM d) (.slice va x.ms.length vc) x.ms) : ∃ g, VlS d wr (N0 + 1 ≤ ·) [.int .u64 x.n, .slice a' x.b.length c', .slice va x.ms.length vc] ⟨x, N0, g, wr.heap.size⟩ := by
  obtain ⟨xn, xb, xm⟩ := x
  match xm, hx1 with
  | [], _ =>
    refine ⟨wr.heap.size, a', c', va, vc, rfl, hu, HB2.weak (fun q hq => ⟨hq.1, by dsimp only; have := hq.1; omega, by dsimp only; have := hq.2; omega, by dsimp only; have := hq.2; omega⟩), .inl ⟨rfl, ?_⟩⟩
    exact ((HM2.row (famM d) (by simp)).old (E' := fun _ _ => True) (by decide) (fun _ _ _ _ => trivial)).weak (fun q hq => ⟨by have := hq.1; omega, by dsimp only; have := hq.1; omega, hq.2⟩)
  | [z], _ =>
    obtain ⟨g, s1, s2, rest, rfl, hc1, hc2, hg1, hg2, B, hm⟩ := own_one HM2
    refine ⟨g, a', c', _, vc, rfl, hu, HB2.weak (fun q hq => ⟨hq.1, by dsimp only; have := hq.1; omega, by dsimp only; have := hq.2; omega, by dsimp only; have := hq.2; omega⟩), .inr ⟨z, s1, s2, rest, rfl, rfl, hc1, hc2, by dsimp only; omega, by dsimp only; omega, hg2, B, ?_⟩⟩
    exact MsgE.go (Keep.refl (fun _ => True) _) (fun _ _ => trivial) (fun k hk => ⟨by have := hk.1; omega, by dsimp only; have := hk.1; omega, hk.2.1, hk.2.2⟩) d _ _ hm
/-- A list of values in new memory, one behind the other. -/
def NewS (d : Nat) (w : World) (xs : List (CV CM)) (e : Ending) (w' : World) : Prop := ∃ a c ts, e = .returned (.slice a xs.length c) ∧ OwnM w' w.heap.size 26 3 (VlS d) (.slice a xs.length c) ts ∧ TsOk w.heap.size w'.heap.size ts xs ∧ Below w.heap.size w w'
theorem NewS.mk {d : Nat} {w : World} {xs : List (CV CM)} {w' : World} (a : Option Addr) (c n : Nat) (hn : n = xs.length) (ts : List VS) (h : OwnM w' w.heap.size 26 3 (VlS d) (.slice a n c) ts) (ht : TsOk w.heap.size w'.heap.size ts xs) (hb : Below w.heap.size w w') : NewS d w xs (.returned (.slice a n c)) w' := by
  subst hn
  exact ⟨a, c, ts, rfl, h, ht, hb⟩
end Go.Proofs.YtnfdlnelfnigdaaGreatDoor
