/-
  The document's Copy of values: where they lie.
  The document's Copy of a field: where it lies.
  What stays of a typed message.
-/
import Derived.Test.YtnfdlnelfnigdaaGreatDoorCCC
import Derived.Test.YtnfdlnelfnigdaaGreatDoorCw8WP
import Derived.Test.YtnfdlnelfnigdaaGreatDoorCCJ
import Derived.Test.YtnfdlnelfnigdaaGreatDoorCTZ
namespace Go.Proofs.YtnfdlnelfnigdaaGreatDoor
open Go.RowKit
set_option maxRecDepth 1000000
set_option linter.unusedVariables false
set_option linter.unusedSimpArgs false
set_option maxHeartbeats 4000000
theorem copyValsS (d : Nat) (HC : CdAt d) (w : World) (Z : Nat → Prop) (xs : List (CV CM)) (a : Option Addr) (c : Nat) (h : VlsR w Z d (.slice a xs.length c) xs) (hone : ∀ v ∈ xs, v.ms.length ≤ 1) : Calls Tryz.prog 91 #[.slice a xs.length c] w (NewS d w xs) := by
  obtain ⟨_, _, e1, l1⟩ := RowM.sl h
  clear e1
  have m1 : (xs.length : Int) ≤ 9223372036854775807 := by omega
  have H1 := hid (VlsR.old h)
  have HON := hid hone
  clear hone
  have HCC := hid HC
  clear h HC
  go_enter Tryz.func91, Tryz.ntmps91
  go_wp2
  go_loopw [3, 4] (fun s3 s4 wr => ∃ (j : Nat) (oa : Option Addr) (oc : Nat) (ts : List VS), s3 = .slice oa j oc ∧ s4 = .int .i64 j ∧ j ≤ xs.length ∧ Hid (OwnM wr w.heap.size 26 3 (VlS d) (.slice oa j oc) ts) ∧ Hid (TsOk w.heap.size wr.heap.size ts (xs.take j)) ∧ Hid (Below w.heap.size w wr)) (fun s3 s4 wr => xs.length - numAt wr s4)
  case atStart => exact ⟨0, none, 0, [], rfl, rfl, by omega, hid (OwnM.nil _ _ _ _ _), hid (TsOk.nil _ _), hid (Below.refl _ _)⟩
  case round =>
    obtain ⟨j, oa, oc, ts, rfl, rfl, hj, HO, HT, hb⟩ := hrel
    obtain ⟨wo, hwo⟩ : ∃ x, x = wr := ⟨_, rfl⟩
    subst hwo
    by_cases hlt : j < xs.length
    · have k2 : (j : Int) < (xs.length : Int) := by omega
      obtain ⟨b1, o1, ba, bc, ma, mc, rfl, hz1, hb1, c0, c1, c2, he⟩ := vls_at (H1.out.kept hb.out) hlt
      obtain ⟨_, _, _, _, e5, g1, q1, bl1, ml1, hu⟩ := val_open he
      simp only [List.cons.injEq, Value.slice.injEq, true_and, and_true] at e5
      obtain ⟨⟨rfl, rfl⟩, rfl, rfl⟩ := e5
      have HQ := hid q1
      have HU := hid hu
      have HTK : Hid (xs.take (j + 1) = xs.take j ++ [xs[j]]) := hid (List.take_succ_eq_append_getElem hlt)
      have HLN : Hid (ts.length = j) := hid (by rw [HT.out.len]; simp; omega)
      have HX1M : Hid (xs[j].ms.length ≤ 1) := hid (HON.out _ (List.getElem_mem hlt))
      generalize xs[j] = x at *
      have m2 : (x.ms.length : Int) ≤ 9223372036854775807 := by omega
      have hbl := hz1.2
      have hsz := hb.out.size
      have HG1 := hid g1
      clear he hz1 g1 q1 hu
      go_upto_region 6 with fail
      have BV : Hid (Blk (wo.alloc (.cells #[.int .u64 x.n, .slice none 0 0, .slice none 0 0] 26)) wo.heap.size 26 #[.int .u64 x.n, .slice none 0 0, .slice none 0 0]) := hid (Blk.new _ _ _)
      have HW1 : Hid (Below wo.heap.size wo (wo.alloc (.cells #[.int .u64 x.n, .slice none 0 0, .slice none 0 0] 26))) := hid (below_alloc _)
      have HS1 : Hid ((wo.alloc (.cells #[.int .u64 x.n, .slice none 0 0, .slice none 0 0] 26)).heap.size = wo.heap.size + 1) := hid (by simp)
      have C2 := hid c2
      replace c0 := cell_below c0 HW1.out
      replace c1 := cell_below c1 HW1.out
      replace c2 := cell_below c2 HW1.out
      generalize (wo.alloc (.cells #[.int .u64 x.n, .slice none 0 0, .slice none 0 0] 26)) = wa at *
      have xv := BV.out.cellF
      have yv := BV.out.frz
      have zv := BV.out.lt
      have HSK : Hid (∀ W, Keep (· < wo.heap.size) wa W → (fun W => W.cell? ⟨b1, o1 + j * 3, none⟩ = some (.int .u64 x.n) ∧ W.cell? ⟨b1, o1 + j * 3 + 1, none⟩ = some (.slice ba x.b.length bc) ∧ W.cell? ⟨b1, o1 + j * 3 + 2, none⟩ = some (.slice ma x.ms.length mc)) W) := hid fun W hk => ⟨cell_kp c0 hk (show _ < _ by omega), cell_kp c1 hk (show _ < _ by omega), cell_kp c2 hk (show _ < _ by omega)⟩
      obtain ⟨a', c', x2, hr, hB1, hB2⟩ := appendBy (HG1.out.kept (below_trans HW1.out (below_drew1 wa)))
      have HR := hid hr
      have HBY : Hid (ByE x2 (wo.heap.size + 1 ≤ ·) (.slice a' x.b.length c') x.b) := hid (hB1.weak (fun k hk => by have := HS1.out; simp at hk; omega))
      have HX2 : Hid (Below wa.heap.size wa x2) := hid (bl_then (below_drew1 _) hB2)
      have BV2 := hid (BV.out.kept HX2.out)
      have xv2 := BV2.out.cellF
      have yv2 := BV2.out.frz
      have zv2 := BV2.out.lt
      clear hr hB1 hB2
      refine wp_region_held_drew (S := (fun W => W.cell? ⟨b1, o1 + j * 3, none⟩ = some (.int .u64 x.n) ∧ W.cell? ⟨b1, o1 + j * 3 + 1, none⟩ = some (.slice ba x.b.length bc) ∧ W.cell? ⟨b1, o1 + j * 3 + 2, none⟩ = some (.slice ma x.ms.length mc))) (by kernel_rfl) ?_ (fun hHeld => ?_)
      · exact HSK.out _ (Keep.ofBelow (below_drew1 _))
      refine wpAnyH_take (i := 0) (v := ?_) rfl (by kernel_rfl) (by kernel_rfl) (by kernel_rfl) (fun _ _ _ h => h) (Or.inl ⟨by rfl, ?_⟩) (by assumption) ?_
      rotate_left
      · (intro w hSw; (try dsimp only at hSw); go_simp; (try with_reducible rfl))
      try simp only [Act.put, List.getElem_toArray, List.getElem_cons_succ, List.getElem_cons_zero, List.setIfInBounds_toArray, List.set_cons_zero, List.set_cons_succ]
      refine wpAnyH_take (i := 2) (v := ?_) rfl (by kernel_rfl) (by kernel_rfl) (by kernel_rfl) (fun _ _ _ h => h) (Or.inl ⟨by rfl, ?_⟩) (by assumption) ?_
      rotate_left
      · (intro w hSw; (try dsimp only at hSw); go_simp; (try with_reducible rfl))
      try simp only [Act.put, List.getElem_toArray, List.getElem_cons_succ, List.getElem_cons_zero, List.setIfInBounds_toArray, List.set_cons_zero, List.set_cons_succ]
      refine wpAnyH_take (i := 3) (v := ?_) rfl (by kernel_rfl) (by kernel_rfl) (by kernel_rfl) (fun _ _ _ h => h) (Or.inl ⟨by rfl, ?_⟩) (by assumption) ?_
      rotate_left
      · (intro w hSw; (try dsimp only at hSw); go_simp; (try with_reducible rfl))
      try simp only [Act.put, List.getElem_toArray, List.getElem_cons_succ, List.getElem_cons_zero, List.setIfInBounds_toArray, List.set_cons_zero, List.set_cons_succ]
      refine wpAnyH_take (i := 4) (v := ?_) rfl (by kernel_rfl) (by kernel_rfl) (by kernel_rfl) (fun _ _ _ h => h) (Or.inl ⟨by rfl, ?_⟩) (by assumption) ?_
      rotate_left
      · (intro w hSw; (try dsimp only at hSw); go_simp; (try with_reducible rfl))
      try simp only [Act.put, List.getElem_toArray, List.getElem_cons_succ, List.getElem_cons_zero, List.setIfInBounds_toArray, List.set_cons_zero, List.set_cons_succ]
      refine wpAnyH_take (i := 5) (v := ?_) rfl (by kernel_rfl) (by kernel_rfl) (by kernel_rfl) (fun _ _ _ h => h) (Or.inl ⟨by rfl, ?_⟩) (by assumption) ?_
      rotate_left
      · (intro w hSw; (try dsimp only at hSw); go_simp; (try with_reducible rfl))
      try simp only [Act.put, List.getElem_toArray, List.getElem_cons_succ, List.getElem_cons_zero, List.setIfInBounds_toArray, List.set_cons_zero, List.set_cons_succ]
      refine wpAnyH_take (i := 6) (v := ?_) rfl (by kernel_rfl) (by kernel_rfl) (by kernel_rfl) (fun _ _ _ h => h) (Or.inl ⟨by rfl, ?_⟩) (by assumption) ?_
      rotate_left
      · (intro w hSw; (try dsimp only at hSw); go_simp; (try with_reducible rfl))
      try simp only [Act.put, List.getElem_toArray, List.getElem_cons_succ, List.getElem_cons_zero, List.setIfInBounds_toArray, List.set_cons_zero, List.set_cons_succ]
      refine wpAnyH_ready (rs := [1]) (by kernel_rfl) (by simp) ?_
      refine AllReadyH.cons rfl (fun K hK => ?_) AllReadyH.nil
      go_simp
      refine hK.out _ _ ?_ (fun hHeld => ?_)
      · first | assumption | exact HSK.out _ (Keep.ofBelow (below_drew1 _))
      clear hK K
      try simp only [Act.put, List.getElem_toArray, List.getElem_cons_succ, List.getElem_cons_zero, List.setIfInBounds_toArray, List.set_cons_zero, List.set_cons_succ]
      refine wpAnyH_ready (rs := [7]) (by kernel_rfl) (by simp) ?_
      refine AllReadyH.cons rfl (fun K hK => ?_) AllReadyH.nil
      refine step_append_ran rfl _ _ 23 23 rfl rfl _ _ (.slice a' x.b.length c') x2 rfl rfl HR.out ?_
      refine hK.out _ _ ?_ (fun hHeld => ?_)
      · first | assumption | exact HSK.out _ (Keep.ofBelow HX2.out)
      clear hK K
      try simp only [Act.put, List.getElem_toArray, List.getElem_cons_succ, List.getElem_cons_zero, List.setIfInBounds_toArray, List.set_cons_zero, List.set_cons_succ]
      refine wpAnyH_take (i := 8) (v := ?_) rfl (by kernel_rfl) (by kernel_rfl) (by kernel_rfl) (fun _ _ _ h => h) (Or.inl ⟨by rfl, ?_⟩) (by assumption) ?_
      rotate_left
      · (intro w hSw; (try dsimp only at hSw); go_simp; (try with_reducible rfl))
      try simp only [Act.put, List.getElem_toArray, List.getElem_cons_succ, List.getElem_cons_zero, List.setIfInBounds_toArray, List.set_cons_zero, List.set_cons_succ]
      refine wpAnyH_ready (rs := [9]) (by kernel_rfl) (by simp) ?_
      refine AllReadyH.cons rfl (fun K hK => ?_) AllReadyH.nil
      go_simp
      refine hK.out _ _ ?_ (fun hHeld => ?_)
      · first | assumption | exact HSK.out _ (kpS (Keep.ofBelow HX2.out) (by simp))
      clear hK K
      try simp only [Act.put, List.getElem_toArray, List.getElem_cons_succ, List.getElem_cons_zero, List.setIfInBounds_toArray, List.set_cons_zero, List.set_cons_succ]
      refine wpAnyH_done (by kernel_rfl) ?_ _
      have BV3 : Hid (Blk (x2.setCell ⟨wo.heap.size, 1, none⟩ (.slice a' x.b.length c')) wo.heap.size 26 #[.int .u64 x.n, .slice a' x.b.length c', .slice none 0 0]) := hid ((BV2.out.set 1 _).is (by simp))
      have HBW : Hid (Below wo.heap.size wo (x2.setCell ⟨wo.heap.size, 1, none⟩ (.slice a' x.b.length c'))) := hid ((HW1.out.trans (HX2.out.mono HW1.out.size)).setCell (by simp) _)
      have HBY3 : Hid (ByE (x2.setCell ⟨wo.heap.size, 1, none⟩ (.slice a' x.b.length c')) (wo.heap.size + 1 ≤ ·) (.slice a' x.b.length c') x.b) := hid (HBY.out.keep (Keep.setCell _ _ _ (by simp)) (fun _ h => h))
      have HSZ : Hid (wo.heap.size + 1 ≤ (x2.setCell ⟨wo.heap.size, 1, none⟩ (.slice a' x.b.length c')).heap.size) := hid (by have := HX2.out.size; have := HS1.out; simp; omega)
      clear xv yv zv xv2 yv2 zv2 BV BV2 HW1 HX2 HR HBY HSK HS1 HG1
      generalize (x2.setCell ⟨wo.heap.size, 1, none⟩ (.slice a' x.b.length c')) = wb at *
      have HBYo := hid (HBY3.out.old)
      have HSN : Hid (wo.heap.size + 1 ≤ wb.heap.size) := HSZ
      generalize hN1 : wb.heap.size = N1 at *
      have HN1 := hid hN1
      clear c0 c1 c2
      go_wp2
      go_loopw [6] (fun s6 wr => ∃ (k : Nat) (va : Option Addr) (vc : Nat), s6 = .int .i64 k ∧ k ≤ x.ms.length ∧ Hid (Blk wr wo.heap.size 26 #[.int .u64 x.n, .slice a' x.b.length c', .slice va k vc]) ∧ Hid (ByE wr (fun b => wo.heap.size + 1 ≤ b ∧ b < N1) (.slice a' x.b.length c') x.b) ∧ Hid (OwnM wr N1 35 2 (FmM d) (.slice va k vc) (x.ms.take k)) ∧ Hid (Below wo.heap.size wo wr) ∧ Hid (N1 ≤ wr.heap.size)) (fun s6 wr => x.ms.length - numAt wr s6)
      case atStart => exact ⟨0, none, 0, rfl, by omega, BV3, HBYo, hid (OwnM.nil _ _ _ _ _), HBW, hid (by have := HN1.out; omega)⟩
      case round =>
        clear BV3 HBYo HBW HN1 hN1 HSZ HBY3
        obtain ⟨k, va, vc, rfl, hk, BV, HBY, HM, HB, HS⟩ := hrel
        have xv := BV.out.cellF
        have yv := BV.out.frz
        have zv := BV.out.lt
        have c2 := cell_below C2.out HB.out
        have hb1 : b1 < wr.heap.size := World.block_lt_of_cell? _ _ c2
        by_cases hkl : k < x.ms.length
        · have k3 : (k : Int) < (x.ms.length : Int) := by omega
          obtain ⟨p1, r1, fa, fc, ua, uc, rfl, hz2, hp1, m10, m11, hm⟩ := mgs_at' (HQ.out.kept HB.out) hkl
          have HE := hid hm
          have HTM : Hid (x.ms.take (k + 1) = x.ms.take k ++ [x.ms[k]]) := hid (List.take_succ_eq_append_getElem hkl)
          have HLM : Hid ((x.ms.take k).length = k) := hid (by simp; omega)
          generalize x.ms[k] = z at *
          have hp2 := hz2.2
          have HSK : Hid (∀ W, Keep (· < wo.heap.size) wr W → (fun W => W.cell? ⟨b1, o1 + j * 3 + 2, none⟩ = some (.slice (some ⟨p1, r1, none⟩) x.ms.length mc) ∧ W.cell? ⟨p1, r1 + k * 2, none⟩ = some (.slice fa z.fs.length fc) ∧ W.cell? ⟨p1, r1 + k * 2 + 1, none⟩ = some (.slice ua z.us.length uc)) W) := hid fun W hkk => ⟨cell_kp c2 hkk (show _ < _ by omega), cell_kp m10 hkk (show _ < _ by omega), cell_kp m11 hkk (show _ < _ by omega)⟩
          clear hm hz2
          go_upto_region 10 with fail
          refine wp_region_held_drew (S := (fun W => W.cell? ⟨b1, o1 + j * 3 + 2, none⟩ = some (.slice (some ⟨p1, r1, none⟩) x.ms.length mc) ∧ W.cell? ⟨p1, r1 + k * 2, none⟩ = some (.slice fa z.fs.length fc) ∧ W.cell? ⟨p1, r1 + k * 2 + 1, none⟩ = some (.slice ua z.us.length uc))) (by kernel_rfl) ?_ (fun hHeld => ?_)
          · exact HSK.out _ (Keep.ofBelow (below_drew1 _))
          refine wpAnyH_take (i := 0) (v := ?_) rfl (by kernel_rfl) (by kernel_rfl) (by kernel_rfl) (fun _ _ _ h => h) (Or.inl ⟨by rfl, ?_⟩) (by assumption) ?_
          rotate_left
          · (intro w hSw; (try dsimp only at hSw); go_simp; (try with_reducible rfl))
          try simp only [Act.put, List.getElem_toArray, List.getElem_cons_succ, List.getElem_cons_zero, List.setIfInBounds_toArray, List.set_cons_zero, List.set_cons_succ]
          refine wpAnyH_take (i := 2) (v := ?_) rfl (by kernel_rfl) (by kernel_rfl) (by kernel_rfl) (fun _ _ _ h => h) (Or.inl ⟨by rfl, ?_⟩) (by assumption) ?_
          rotate_left
          · (intro w hSw; (try dsimp only at hSw); go_simp; (try with_reducible rfl))
          try simp only [Act.put, List.getElem_toArray, List.getElem_cons_succ, List.getElem_cons_zero, List.setIfInBounds_toArray, List.set_cons_zero, List.set_cons_succ]
          refine wpAnyH_take (i := 3) (v := ?_) rfl (by kernel_rfl) (by kernel_rfl) (by kernel_rfl) (fun _ _ _ h => h) (Or.inl ⟨by rfl, ?_⟩) (by assumption) ?_
          rotate_left
          · (intro w hSw; (try dsimp only at hSw); go_simp; (try with_reducible rfl))
          try simp only [Act.put, List.getElem_toArray, List.getElem_cons_succ, List.getElem_cons_zero, List.setIfInBounds_toArray, List.set_cons_zero, List.set_cons_succ]
          refine wpAnyH_take (i := 4) (v := ?_) rfl (by kernel_rfl) (by kernel_rfl) (by kernel_rfl) (fun _ _ _ h => h) (Or.inl ⟨by rfl, ?_⟩) (by assumption) ?_
          rotate_left
          · (intro w hSw; (try dsimp only at hSw); go_simp; (try with_reducible rfl))
          try simp only [Act.put, List.getElem_toArray, List.getElem_cons_succ, List.getElem_cons_zero, List.setIfInBounds_toArray, List.set_cons_zero, List.set_cons_succ]
          refine wpAnyH_take (i := 5) (v := ?_) rfl (by kernel_rfl) (by kernel_rfl) (by kernel_rfl) (fun _ _ _ h => h) (Or.inl ⟨by rfl, ?_⟩) (by assumption) ?_
          rotate_left
          · (intro w hSw; (try dsimp only at hSw); go_simp; (try with_reducible rfl))
          try simp only [Act.put, List.getElem_toArray, List.getElem_cons_succ, List.getElem_cons_zero, List.setIfInBounds_toArray, List.set_cons_zero, List.set_cons_succ]
          refine wpAnyH_take (i := 6) (v := ?_) rfl (by kernel_rfl) (by kernel_rfl) (by kernel_rfl) (fun _ _ _ h => h) (Or.inl ⟨by rfl, ?_⟩) (by assumption) ?_
          rotate_left
          · (intro w hSw; (try dsimp only at hSw); go_simp; (try with_reducible rfl))
          try simp only [Act.put, List.getElem_toArray, List.getElem_cons_succ, List.getElem_cons_zero, List.setIfInBounds_toArray, List.set_cons_zero, List.set_cons_succ]
          refine wpAnyH_take (i := 7) (v := ?_) rfl (by kernel_rfl) (by kernel_rfl) (by kernel_rfl) (fun _ _ _ h => h) (Or.inl ⟨by rfl, ?_⟩) (by assumption) ?_
          rotate_left
          · (intro w hSw; (try dsimp only at hSw); go_simp; (try with_reducible rfl))
          try simp only [Act.put, List.getElem_toArray, List.getElem_cons_succ, List.getElem_cons_zero, List.setIfInBounds_toArray, List.set_cons_zero, List.set_cons_succ]
          refine wpAnyH_take (i := 8) (v := ?_) rfl (by kernel_rfl) (by kernel_rfl) (by kernel_rfl) (fun _ _ _ h => h) (Or.inl ⟨by rfl, ?_⟩) (by assumption) ?_
          rotate_left
          · (intro w hSw; (try dsimp only at hSw); go_simp; (try with_reducible rfl))
          try simp only [Act.put, List.getElem_toArray, List.getElem_cons_succ, List.getElem_cons_zero, List.setIfInBounds_toArray, List.set_cons_zero, List.set_cons_succ]
          refine wpAnyH_take (i := 9) (v := ?_) rfl (by kernel_rfl) (by kernel_rfl) (by kernel_rfl) (fun _ _ _ h => h) (Or.inl ⟨by rfl, ?_⟩) (by assumption) ?_
          rotate_left
          · (intro w hSw; (try dsimp only at hSw); go_simp; (try with_reducible rfl))
          try simp only [Act.put, List.getElem_toArray, List.getElem_cons_succ, List.getElem_cons_zero, List.setIfInBounds_toArray, List.set_cons_zero, List.set_cons_succ]
          refine wpAnyH_ready (rs := [1, 10]) (by kernel_rfl) (by simp) ?_
          refine AllReadyH.cons rfl (fun K hK => ?_) ?_
          · go_simp
            refine hK.out _ _ ?_ (fun hHeld => ?_)
            · first | assumption | exact HSK.out _ (Keep.ofBelow (below_drew1 _))
            clear hK K
            try simp only [Act.put, List.getElem_toArray, List.getElem_cons_succ, List.getElem_cons_zero, List.setIfInBounds_toArray, List.set_cons_zero, List.set_cons_succ]
            refine wpAnyH_ready (rs := [10]) (by kernel_rfl) (by simp) ?_
            refine AllReadyH.cons rfl (fun K hK => ?_) ?_
            · go_simp
              go_wp2_with (go_at_call 124; refine (HCC.out _ (fun b => Z b ∧ b < w.heap.size) _ z (HE.out.kept (below_drew1 _))).mono ?_; rintro e u1 ⟨ds, rfl, hn, hbu⟩; have HX1 : Hid (Below wr.heap.size wr u1) := hid (bl_then (below_drew1 _) hbu); have K1 : Hid (Keep (· < wo.heap.size) wr u1) := hid (Keep.ofBelow HX1.out); have HZ := hid (zof_new (famM d) HM.out (by simp) HS.out hn); have HO1 := hid (HM.out.kept (famM d) HX1.out); obtain ⟨ka2, kc2, va2, vc2, rfl, -⟩ := msg_openD HZ.out; have BV1 := hid (BV.out.kept HX1.out); have xv1 := BV1.out.cellF; have yv1 := BV1.out.frz; have zv1 := BV1.out.lt; have hs1 := HX1.out.size; clear hbu hn)
              refine hK.out _ _ ?_ (fun hHeld => ?_)
              · first | assumption | exact HSK.out _ (K1.out)
              clear hK K
              try simp only [Act.put, List.getElem_toArray, List.getElem_cons_succ, List.getElem_cons_zero, List.setIfInBounds_toArray, List.set_cons_zero, List.set_cons_succ]
              obtain ⟨la, lc, x3, HRUN, HO2, HG⟩ := OwnM.push (famM d) 35 24 48 (.agg #[.slice none 0 0, .slice none 0 0]) Tryz.underlying24 Tryz.infoM rfl (by decide) (by decide) HO1.out HZ.out (by have := HS.out; omega) (by rw [HLM.out]; omega)
              rw [HLM.out] at HRUN HO2 HG
              refine wpAnyH_ready (rs := [11]) (by kernel_rfl) (by simp) ?_
              refine AllReadyH.cons rfl (fun K hK => ?_) ?_
              · go_simp
                refine hK.out _ _ ?_ (fun hHeld => ?_)
                · first | assumption | exact HSK.out _ (kpA K1.out _)
                clear hK K
                try simp only [Act.put, List.getElem_toArray, List.getElem_cons_succ, List.getElem_cons_zero, List.setIfInBounds_toArray, List.set_cons_zero, List.set_cons_succ]
                refine wpAnyH_ready (rs := [12]) (by kernel_rfl) (by simp) ?_
                refine AllReadyH.cons rfl (fun K hK => ?_) ?_
                · refine step_append_ran rfl _ _ 24 24 rfl rfl _ _ (.slice la (k + 1) lc) x3 rfl rfl HRUN.out ?_
                  have KG : Hid (Keep (· < N1) u1 x3) := hid (Keep.ofGrow HG.out (fun q (hq : q < N1) e => by have := (HO1.out.own e).1; omega))
                  have K3 : Hid (Keep (· < wo.heap.size) wr x3) := hid (K1.out.trans (KG.out.weak (fun q (hq : q < wo.heap.size) => by have := HSN.out; show q < N1; omega)))
                  have BV3 : Hid (Blk x3 wo.heap.size 26 #[.int .u64 x.n, .slice a' x.b.length c', .slice va k vc]) := hid (BV1.out.keep KG.out (by show _ < _; have := HSN.out; omega))
                  have xv3 := BV3.out.cellF
                  have yv3 := BV3.out.frz
                  have zv3 := BV3.out.lt
                  have hs3 := HG.out.size
                  refine hK.out _ _ ?_ (fun hHeld => ?_)
                  · first | assumption | exact HSK.out _ (K3.out)
                  clear hK K
                  try simp only [Act.put, List.getElem_toArray, List.getElem_cons_succ, List.getElem_cons_zero, List.setIfInBounds_toArray, List.set_cons_zero, List.set_cons_succ]
                  refine wpAnyH_take (i := 13) (v := ?_) rfl (by kernel_rfl) (by kernel_rfl) (by kernel_rfl) (fun _ _ _ h => h) (Or.inl ⟨by rfl, ?_⟩) (by assumption) ?_
                  rotate_left
                  · (intro w hSw; (try dsimp only at hSw); go_simp; (try with_reducible rfl))
                  try simp only [Act.put, List.getElem_toArray, List.getElem_cons_succ, List.getElem_cons_zero, List.setIfInBounds_toArray, List.set_cons_zero, List.set_cons_succ]
                  refine wpAnyH_ready (rs := [14]) (by kernel_rfl) (by simp) ?_
                  refine AllReadyH.cons rfl (fun K hK => ?_) ?_
                  · go_simp
                    refine hK.out _ _ ?_ (fun hHeld => ?_)
                    · first | assumption | exact HSK.out _ (kpS K3.out (by simp))
                    clear hK K
                    try simp only [Act.put, List.getElem_toArray, List.getElem_cons_succ, List.getElem_cons_zero, List.setIfInBounds_toArray, List.set_cons_zero, List.set_cons_succ]
                    refine wpAnyH_done (by kernel_rfl) ?_ _
                    go_wp2
                    exact ⟨⟨k + 1, la, lc, by simp, by omega, hid ((BV3.out.set 2 _).is (by simp)), hid (HBY.out.keep (f := fun b => wo.heap.size + 1 ≤ b ∧ b < N1) ((Keep.ofBelow HX1.out).trans ((KG.out.weak (fun q hq => hq.2)).trans (Keep.setCell _ _ _ (by first | (simp; done) | (simp; omega) | omega)))) (fun _ h => h)), hid (by rw [HTM.out]; exact HO2.out.keepB (famM d) (Keep.setCell _ _ _ (by have := HSN.out; simp; omega))), hid (Below.trans HB.out (Below.trans (HX1.out.mono HB.out.size) (by have h3 := KG.out.below (B := wo.heap.size) (by have := HB.out.size; omega) (fun k hk => by show k < _; have := HSN.out; omega); exact h3.setCell (by simp) _))), hid (by have := HS.out; simp; omega)⟩, by simp [numAt]; omega⟩
                  exact AllReadyH.nil
                exact AllReadyH.nil
              exact AllReadyH.nil
            exact AllReadyH.nil
          refine AllReadyH.cons rfl (fun K hK => ?_) ?_
          · go_simp
            go_wp2_with (go_at_call 124; refine (HCC.out _ (fun b => Z b ∧ b < w.heap.size) _ z (HE.out.kept (below_drew1 _))).mono ?_; rintro e u1 ⟨ds, rfl, hn, hbu⟩; have HX1 : Hid (Below wr.heap.size wr u1) := hid (bl_then (below_drew1 _) hbu); have K1 : Hid (Keep (· < wo.heap.size) wr u1) := hid (Keep.ofBelow HX1.out); have HZ := hid (zof_new (famM d) HM.out (by simp) HS.out hn); have HO1 := hid (HM.out.kept (famM d) HX1.out); obtain ⟨ka2, kc2, va2, vc2, rfl, -⟩ := msg_openD HZ.out; have BV1 := hid (BV.out.kept HX1.out); have xv1 := BV1.out.cellF; have yv1 := BV1.out.frz; have zv1 := BV1.out.lt; have hs1 := HX1.out.size; clear hbu hn)
            refine hK.out _ _ ?_ (fun hHeld => ?_)
            · first | assumption | exact HSK.out _ (K1.out)
            clear hK K
            try simp only [Act.put, List.getElem_toArray, List.getElem_cons_succ, List.getElem_cons_zero, List.setIfInBounds_toArray, List.set_cons_zero, List.set_cons_succ]
            obtain ⟨la, lc, x3, HRUN, HO2, HG⟩ := OwnM.push (famM d) 35 24 48 (.agg #[.slice none 0 0, .slice none 0 0]) Tryz.underlying24 Tryz.infoM rfl (by decide) (by decide) HO1.out HZ.out (by have := HS.out; omega) (by rw [HLM.out]; omega)
            rw [HLM.out] at HRUN HO2 HG
            refine wpAnyH_ready (rs := [1, 11]) (by kernel_rfl) (by simp) ?_
            refine AllReadyH.cons rfl (fun K hK => ?_) ?_
            · go_simp
              refine hK.out _ _ ?_ (fun hHeld => ?_)
              · first | assumption | exact HSK.out _ (K1.out)
              clear hK K
              try simp only [Act.put, List.getElem_toArray, List.getElem_cons_succ, List.getElem_cons_zero, List.setIfInBounds_toArray, List.set_cons_zero, List.set_cons_succ]
              refine wpAnyH_ready (rs := [11]) (by kernel_rfl) (by simp) ?_
              refine AllReadyH.cons rfl (fun K hK => ?_) ?_
              · go_simp
                refine hK.out _ _ ?_ (fun hHeld => ?_)
                · first | assumption | exact HSK.out _ (kpA K1.out _)
                clear hK K
                try simp only [Act.put, List.getElem_toArray, List.getElem_cons_succ, List.getElem_cons_zero, List.setIfInBounds_toArray, List.set_cons_zero, List.set_cons_succ]
                refine wpAnyH_ready (rs := [12]) (by kernel_rfl) (by simp) ?_
                refine AllReadyH.cons rfl (fun K hK => ?_) ?_
                · refine step_append_ran rfl _ _ 24 24 rfl rfl _ _ (.slice la (k + 1) lc) x3 rfl rfl HRUN.out ?_
                  have KG : Hid (Keep (· < N1) u1 x3) := hid (Keep.ofGrow HG.out (fun q (hq : q < N1) e => by have := (HO1.out.own e).1; omega))
                  have K3 : Hid (Keep (· < wo.heap.size) wr x3) := hid (K1.out.trans (KG.out.weak (fun q (hq : q < wo.heap.size) => by have := HSN.out; show q < N1; omega)))
                  have BV3 : Hid (Blk x3 wo.heap.size 26 #[.int .u64 x.n, .slice a' x.b.length c', .slice va k vc]) := hid (BV1.out.keep KG.out (by show _ < _; have := HSN.out; omega))
                  have xv3 := BV3.out.cellF
                  have yv3 := BV3.out.frz
                  have zv3 := BV3.out.lt
                  have hs3 := HG.out.size
                  refine hK.out _ _ ?_ (fun hHeld => ?_)
                  · first | assumption | exact HSK.out _ (K3.out)
                  clear hK K
                  try simp only [Act.put, List.getElem_toArray, List.getElem_cons_succ, List.getElem_cons_zero, List.setIfInBounds_toArray, List.set_cons_zero, List.set_cons_succ]
                  refine wpAnyH_take (i := 13) (v := ?_) rfl (by kernel_rfl) (by kernel_rfl) (by kernel_rfl) (fun _ _ _ h => h) (Or.inl ⟨by rfl, ?_⟩) (by assumption) ?_
                  rotate_left
                  · (intro w hSw; (try dsimp only at hSw); go_simp; (try with_reducible rfl))
                  try simp only [Act.put, List.getElem_toArray, List.getElem_cons_succ, List.getElem_cons_zero, List.setIfInBounds_toArray, List.set_cons_zero, List.set_cons_succ]
                  refine wpAnyH_ready (rs := [14]) (by kernel_rfl) (by simp) ?_
                  refine AllReadyH.cons rfl (fun K hK => ?_) ?_
                  · go_simp
                    refine hK.out _ _ ?_ (fun hHeld => ?_)
                    · first | assumption | exact HSK.out _ (kpS K3.out (by simp))
                    clear hK K
                    try simp only [Act.put, List.getElem_toArray, List.getElem_cons_succ, List.getElem_cons_zero, List.setIfInBounds_toArray, List.set_cons_zero, List.set_cons_succ]
                    refine wpAnyH_done (by kernel_rfl) ?_ _
                    go_wp2
                    exact ⟨⟨k + 1, la, lc, by simp, by omega, hid ((BV3.out.set 2 _).is (by simp)), hid (HBY.out.keep (f := fun b => wo.heap.size + 1 ≤ b ∧ b < N1) ((Keep.ofBelow HX1.out).trans ((KG.out.weak (fun q hq => hq.2)).trans (Keep.setCell _ _ _ (by first | (simp; done) | (simp; omega) | omega)))) (fun _ h => h)), hid (by rw [HTM.out]; exact HO2.out.keepB (famM d) (Keep.setCell _ _ _ (by have := HSN.out; simp; omega))), hid (Below.trans HB.out (Below.trans (HX1.out.mono HB.out.size) (by have h3 := KG.out.below (B := wo.heap.size) (by have := HB.out.size; omega) (fun k hk => by show k < _; have := HSN.out; omega); exact h3.setCell (by simp) _))), hid (by have := HS.out; simp; omega)⟩, by simp [numAt]; omega⟩
                  exact AllReadyH.nil
                exact AllReadyH.nil
              exact AllReadyH.nil
            refine AllReadyH.cons rfl (fun K hK => ?_) ?_
            · go_simp
              refine hK.out _ _ ?_ (fun hHeld => ?_)
              · first | assumption | exact HSK.out _ (kpA K1.out _)
              clear hK K
              try simp only [Act.put, List.getElem_toArray, List.getElem_cons_succ, List.getElem_cons_zero, List.setIfInBounds_toArray, List.set_cons_zero, List.set_cons_succ]
              refine wpAnyH_ready (rs := [1]) (by kernel_rfl) (by simp) ?_
              refine AllReadyH.cons rfl (fun K hK => ?_) ?_
              · go_simp
                refine hK.out _ _ ?_ (fun hHeld => ?_)
                · first | assumption | exact HSK.out _ (kpA K1.out _)
                clear hK K
                try simp only [Act.put, List.getElem_toArray, List.getElem_cons_succ, List.getElem_cons_zero, List.setIfInBounds_toArray, List.set_cons_zero, List.set_cons_succ]
                refine wpAnyH_ready (rs := [12]) (by kernel_rfl) (by simp) ?_
                refine AllReadyH.cons rfl (fun K hK => ?_) ?_
                · refine step_append_ran rfl _ _ 24 24 rfl rfl _ _ (.slice la (k + 1) lc) x3 rfl rfl HRUN.out ?_
                  have KG : Hid (Keep (· < N1) u1 x3) := hid (Keep.ofGrow HG.out (fun q (hq : q < N1) e => by have := (HO1.out.own e).1; omega))
                  have K3 : Hid (Keep (· < wo.heap.size) wr x3) := hid (K1.out.trans (KG.out.weak (fun q (hq : q < wo.heap.size) => by have := HSN.out; show q < N1; omega)))
                  have BV3 : Hid (Blk x3 wo.heap.size 26 #[.int .u64 x.n, .slice a' x.b.length c', .slice va k vc]) := hid (BV1.out.keep KG.out (by show _ < _; have := HSN.out; omega))
                  have xv3 := BV3.out.cellF
                  have yv3 := BV3.out.frz
                  have zv3 := BV3.out.lt
                  have hs3 := HG.out.size
                  refine hK.out _ _ ?_ (fun hHeld => ?_)
                  · first | assumption | exact HSK.out _ (K3.out)
                  clear hK K
                  try simp only [Act.put, List.getElem_toArray, List.getElem_cons_succ, List.getElem_cons_zero, List.setIfInBounds_toArray, List.set_cons_zero, List.set_cons_succ]
                  refine wpAnyH_take (i := 13) (v := ?_) rfl (by kernel_rfl) (by kernel_rfl) (by kernel_rfl) (fun _ _ _ h => h) (Or.inl ⟨by rfl, ?_⟩) (by assumption) ?_
                  rotate_left
                  · (intro w hSw; (try dsimp only at hSw); go_simp; (try with_reducible rfl))
                  try simp only [Act.put, List.getElem_toArray, List.getElem_cons_succ, List.getElem_cons_zero, List.setIfInBounds_toArray, List.set_cons_zero, List.set_cons_succ]
                  refine wpAnyH_ready (rs := [14]) (by kernel_rfl) (by simp) ?_
                  refine AllReadyH.cons rfl (fun K hK => ?_) ?_
                  · go_simp
                    refine hK.out _ _ ?_ (fun hHeld => ?_)
                    · first | assumption | exact HSK.out _ (kpS K3.out (by simp))
                    clear hK K
                    try simp only [Act.put, List.getElem_toArray, List.getElem_cons_succ, List.getElem_cons_zero, List.setIfInBounds_toArray, List.set_cons_zero, List.set_cons_succ]
                    refine wpAnyH_done (by kernel_rfl) ?_ _
                    go_wp2
                    exact ⟨⟨k + 1, la, lc, by simp, by omega, hid ((BV3.out.set 2 _).is (by simp)), hid (HBY.out.keep (f := fun b => wo.heap.size + 1 ≤ b ∧ b < N1) ((Keep.ofBelow HX1.out).trans ((KG.out.weak (fun q hq => hq.2)).trans (Keep.setCell _ _ _ (by first | (simp; done) | (simp; omega) | omega)))) (fun _ h => h)), hid (by rw [HTM.out]; exact HO2.out.keepB (famM d) (Keep.setCell _ _ _ (by have := HSN.out; simp; omega))), hid (Below.trans HB.out (Below.trans (HX1.out.mono HB.out.size) (by have h3 := KG.out.below (B := wo.heap.size) (by have := HB.out.size; omega) (fun k hk => by show k < _; have := HSN.out; omega); exact h3.setCell (by simp) _))), hid (by have := HS.out; simp; omega)⟩, by simp [numAt]; omega⟩
                  exact AllReadyH.nil
                exact AllReadyH.nil
              exact AllReadyH.nil
            exact AllReadyH.nil
          exact AllReadyH.nil
        · have k3 : ¬ (k : Int) < (x.ms.length : Int) := by omega
          have ek : k = x.ms.length := by omega
          subst ek
          have e1 : x.ms.take x.ms.length = x.ms := List.take_length
          rw [e1] at HM
          have HVE := vls_make HX1M.out HU.out HSN.out HS.out HBY.out HM.out
          obtain ⟨gb, HVE⟩ := HVE
          have HO1 := hid (HO.out.kept (famVS d) HB.out)
          have HZ : Hid (VlS d wr (Zof wr w.heap.size (.slice oa j oc)) [.int .u64 x.n, .slice a' x.b.length c', .slice va x.ms.length vc] ⟨x, wo.heap.size, gb, wr.heap.size⟩) := hid ((famVS d).go ((famVS d).old HVE) (Keep.refl (fun _ => True) wr) (fun _ _ => trivial) (fun b hz => ⟨by have := hz.1; omega, hz.2, fun e => by have := (HO.out.own e).2; have := hz.1; omega⟩))
          have hb2 : Hid (Below w.heap.size w wr) := hid (hb.out.trans (HB.out.mono hsz))
          obtain ⟨la, lc, x3, HRUN, HO2, HG⟩ := OwnM.push (famVS d) 26 27 56 (.agg #[.int .u64 0, .slice none 0 0, .slice none 0 0]) Tryz.underlying27 Tryz.infoV rfl (by decide) (by decide) HO1.out HZ.out hb2.out.size (by rw [HLN.out]; omega)
          rw [HLN.out] at HRUN HO2 HG
          have hb3 : Hid (Below w.heap.size w x3) := hid (hb2.out.trans (HO1.out.bel HG.out (Nat.le_refl _) hb2.out.size))
          have HT2 : Hid (TsOk w.heap.size x3.heap.size (ts ++ [⟨x, wo.heap.size, gb, wr.heap.size⟩]) (xs.take j ++ [x])) := hid (HT.out.push ⟨x, wo.heap.size, gb, wr.heap.size⟩ (Nat.le_refl _) hsz (by dsimp only; have := HB.out.size; omega) (by dsimp only; exact HG.out.size))
          clear e1 HVE HM hkl hk
          go_wp2_with (first | (at_builtin; refine wpList_append_ran rfl _ _ 27 27 rfl rfl _ _ (.slice la (j + 1) lc) x3 rfl rfl HRUN.out ?_))
          exact ⟨⟨j + 1, la, lc, ts ++ [⟨x, wo.heap.size, gb, wr.heap.size⟩], rfl, by simp, by omega, HO2, hid (by rw [HTK.out]; exact HT2.out), hb3⟩, by simp [numAt]; omega⟩
    · have k2 : ¬ (j : Int) < (xs.length : Int) := by omega
      have ej : xs.length = j := by omega
      have e1 : xs.take j = xs := List.take_of_length_le (by omega)
      rw [e1] at HT
      have HEJ := hid ej
      clear ej e1
      go_wp2
      go_ret
      exact NewS.mk oa oc j HEJ.out.symm ts HO.out HT.out hb.out
set_option maxHeartbeats 2000000
theorem new_span {w0 w2 : World} {d : Nat} {v : Value} {xs : List (CV CM)} (hn : RowM w2 (w0.heap.size ≤ ·) 3 (FmV d w2 (w0.heap.size ≤ ·)) v xs) : ∃ B E, Hid (VlsR w2 (fun q => B ≤ q ∧ q < E) d v xs) ∧ Hid (w0.heap.size = B) ∧ Hid (E = w2.heap.size) := ⟨_, _, hid (VlsR.old hn), hid rfl, hid rfl⟩
theorem new_spanS {w0 w2 : World} {d : Nat} {v : Value} {ts : List VS} {xs : List (CV CM)} (hn : OwnM w2 w0.heap.size 26 3 (VlS d) v ts) (ht : TsOk w0.heap.size w2.heap.size ts xs) : ∃ B E, Hid (OwnM w2 B 26 3 (VlS d) v ts) ∧ Hid (TsOk B E ts xs) ∧ Hid (w0.heap.size = B) ∧ Hid (E = w2.heap.size) := ⟨_, _, hid hn, hid ht, hid rfl, hid rfl⟩
/-- A field in new memory: its values one behind the other, its keys apart from them. -/
def NewFS (d : Nat) (w : World) (x : CF CM) (e : Ending) (w' : World) : Prop := ∃ a1 c1 a2 c2 ts B, e = .returned (.agg #[.int .i64 x.num, .slice a1 x.ks.length c1, .slice a2 x.vs.length c2]) ∧ w.heap.size ≤ B ∧ VlsR w' (fun q => w.heap.size ≤ q ∧ ∀ p ∈ ts, ¬ (p.lo ≤ q ∧ q < p.hi)) d (.slice a1 x.ks.length c1) x.ks ∧ OwnM w' B 26 3 (VlS d) (.slice a2 x.vs.length c2) ts ∧ TsOk B w'.heap.size ts x.vs ∧ Below w.heap.size w w'
theorem apart_or {B1 E1 B2 E2 q : Nat} {ts : List VS} {xs : List (CV CM)} (ht : TsOk B2 E2 ts xs) (h : E1 ≤ B2 ∨ E2 ≤ B1) (h1 : B1 ≤ q) (h2 : q < E1) : ∀ p ∈ ts, ¬ (p.lo ≤ q ∧ q < p.hi) := by
  intro p hp hq
  have := ht.b p hp
  rcases h with h | h <;> omega
theorem TsOk.le {B E E' : Nat} {ts : List VS} {xs : List (CV CM)} (h : TsOk B E ts xs) (hE : E ≤ E') : TsOk B E' ts xs := ⟨h.vs, h.pw, fun p hp => by have := h.b p hp; omega⟩
theorem copyFieldS (d : Nat) (HC : CdAt d) (w : World) (Z : Nat → Prop) (cs : List Value) (x : CF CM) (h : FldE w Z (MsgE w Z d) cs x) (hone : ∀ v ∈ x.vs, v.ms.length ≤ 1) : Calls Tryz.prog 47 #[.agg cs.toArray] w (NewFS d w x) := by
  obtain ⟨ka, kc, va, vc, rfl, g, q, -, -, hu⟩ := fld_open h
  have HU := hid hu
  have G := hid fun W (hW : Below w.heap.size w W) => copyValsD d HC W Z x.ks ka kc (g.kept hW)
  have Q := hid fun W (hW : Below w.heap.size w W) => copyValsS d HC W Z x.vs va vc (q.kept hW) hone
  clear h g q hu HC hone
  go_enter Tryz.func47, Tryz.ntmps47
  go_upto_region 1 with fail
  have Bx : Blk ((w.alloc (.cells #[.int .i64 x.num, .slice ka x.ks.length kc, .slice va x.vs.length vc] 29)).alloc (.cells #[.int .i64 0, .slice none 0 0, .slice none 0 0] 29)) w.heap.size 29 #[.int .i64 x.num, .slice ka x.ks.length kc, .slice va x.vs.length vc] := (Blk.new _ _ _).kept (below_alloc _)
  have Br : Blk ((w.alloc (.cells #[.int .i64 x.num, .slice ka x.ks.length kc, .slice va x.vs.length vc] 29)).alloc (.cells #[.int .i64 0, .slice none 0 0, .slice none 0 0] 29)) (w.heap.size + 1) 29 #[.int .i64 0, .slice none 0 0, .slice none 0 0] := Blk.newAt (by simp)
  have HB : Hid (Below w.heap.size w ((w.alloc (.cells #[.int .i64 x.num, .slice ka x.ks.length kc, .slice va x.vs.length vc] 29)).alloc (.cells #[.int .i64 0, .slice none 0 0, .slice none 0 0] 29))) := hid (by exact blBy)
  have HS : Hid (w.heap.size + 2 ≤ ((w.alloc (.cells #[.int .i64 x.num, .slice ka x.ks.length kc, .slice va x.vs.length vc] 29)).alloc (.cells #[.int .i64 0, .slice none 0 0, .slice none 0 0] 29)).heap.size) := hid (by simp)
  generalize ((w.alloc (.cells #[.int .i64 x.num, .slice ka x.ks.length kc, .slice va x.vs.length vc] 29)).alloc (.cells #[.int .i64 0, .slice none 0 0, .slice none 0 0] 29)) = W at *
  have f0 : W.cell? ⟨w.heap.size, 0, none⟩ = some (.int .i64 x.num) := Bx.cell 0 _ rfl
  have f1 : W.cell? ⟨w.heap.size, 1, none⟩ = some (.slice ka x.ks.length kc) := Bx.cell 1 _ rfl
  have f2 : W.cell? ⟨w.heap.size, 2, none⟩ = some (.slice va x.vs.length vc) := Bx.cell 2 _ rfl
  have hp1 : w.heap.size ≠ w.heap.size + 1 := by omega
  have xr := Br.cellF
  have yr := Br.frz
  have zr := Br.lt
  clear Bx
  go_region_held3 (fun W => W.cell? ⟨w.heap.size, 0, none⟩ = some (.int .i64 x.num) ∧ W.cell? ⟨w.heap.size, 1, none⟩ = some (.slice ka x.ks.length kc) ∧ W.cell? ⟨w.heap.size, 2, none⟩ = some (.slice va x.vs.length vc)) (first | exact ⟨f0, f1, f2⟩ | exact ⟨cs3 f0 hp1, cs3 f1 hp1, cs3 f2 hp1⟩) (first | (go_at_call_of 91 (Value.slice ka x.ks.length kc); refine (G.out _ (by have := HB.out; exact blBy)).mono ?_; rintro e w2 ⟨a1, c1, rfl, hn, hbx⟩; obtain ⟨B1, E1, H1, hB1, hE1⟩ := new_span hn; have HL1 : Hid (w.heap.size + 2 ≤ B1) := hid (Nat.le_trans HS.out (Nat.le_of_eq hB1.out)); (first | (have HOK : Hid (E2 ≤ B1) := hid (Nat.le_trans HE2.out (Nat.le_of_eq hB1.out))) | skip); replace f0 := cell_below f0 (below_trans (by first | exact Below.refl _ _ | exact below_drew1 _ | exact below_drewN _ _) hbx); replace f1 := cell_below f1 (below_trans (by first | exact Below.refl _ _ | exact below_drew1 _ | exact below_drewN _ _) hbx); replace f2 := cell_below f2 (below_trans (by first | exact Below.refl _ _ | exact below_drew1 _ | exact below_drewN _ _) hbx); replace Br := Br.kept (below_trans (by first | exact Below.refl _ _ | exact below_drew1 _ | exact below_drewN _ _) hbx); replace xr := Br.cellF; replace yr := Br.frz; replace zr := Br.lt; replace HB := hid (below_trans HB.out (below_trans (by first | exact Below.refl _ _ | exact below_drew1 _ | exact below_drewN _ _) hbx)); have HE1 : Hid (E1 ≤ w2.heap.size) := hid (Nat.le_of_eq hE1.out); (try replace H2 := hid (OwnM.kept (famVS d) H2.out (below_trans (by first | exact Below.refl _ _ | exact below_drew1 _ | exact below_drewN _ _) hbx))); (try replace HE2 := hid (Nat.le_trans HE2.out (Below.size (below_trans (by first | exact Below.refl _ _ | exact below_drew1 _ | exact below_drewN _ _) hbx)))); replace HS := hid (Nat.le_trans HS.out (Below.size (below_trans (by first | exact Below.refl _ _ | exact below_drew1 _ | exact below_drewN _ _) hbx))); clear hn hbx hB1 hE1) | (go_at_call_of 91 (Value.slice va x.vs.length vc); refine (Q.out _ (by have := HB.out; exact blBy)).mono ?_; rintro e w3 ⟨a2, c2, ts, rfl, hn, ht, hbx⟩; obtain ⟨B2, E2, H2, HT2, hB2, hE2⟩ := new_spanS hn ht; have HL2 : Hid (w.heap.size + 2 ≤ B2) := hid (Nat.le_trans HS.out (Nat.le_of_eq hB2.out)); (first | (have HOK : Hid (E1 ≤ B2) := hid (Nat.le_trans HE1.out (Nat.le_of_eq hB2.out))) | skip); replace f0 := cell_below f0 (below_trans (by first | exact Below.refl _ _ | exact below_drew1 _ | exact below_drewN _ _) hbx); replace f1 := cell_below f1 (below_trans (by first | exact Below.refl _ _ | exact below_drew1 _ | exact below_drewN _ _) hbx); replace f2 := cell_below f2 (below_trans (by first | exact Below.refl _ _ | exact below_drew1 _ | exact below_drewN _ _) hbx); replace Br := Br.kept (below_trans (by first | exact Below.refl _ _ | exact below_drew1 _ | exact below_drewN _ _) hbx); replace xr := Br.cellF; replace yr := Br.frz; replace zr := Br.lt; replace HB := hid (below_trans HB.out (below_trans (by first | exact Below.refl _ _ | exact below_drew1 _ | exact below_drewN _ _) hbx)); have HE2 : Hid (E2 ≤ w3.heap.size) := hid (Nat.le_of_eq hE2.out); (try replace H1 := hid (VlsR.kept H1.out (below_trans (by first | exact Below.refl _ _ | exact below_drew1 _ | exact below_drewN _ _) hbx))); (try replace HE1 := hid (Nat.le_trans HE1.out (Below.size (below_trans (by first | exact Below.refl _ _ | exact below_drew1 _ | exact below_drewN _ _) hbx)))); replace HS := hid (Nat.le_trans HS.out (Below.size (below_trans (by first | exact Below.refl _ _ | exact below_drew1 _ | exact below_drewN _ _) hbx))); clear hn ht hbx hB2 hE2))
  all_goals go_wp2
  all_goals exact bodyPost_ret (v := .agg #[.int .i64 x.num, .slice a1 x.ks.length c1, .slice a2 x.vs.length c2]) (by simp [results, Tryz.results47, go_sem, xr, zr, yr]) rfl ⟨a1, c1, a2, c2, ts, B2, rfl, by have := HL2.out; omega, VlsR.go H1.out (f := (w.heap.size + 2 ≤ ·)) (by with_reducible repeat (first | exact Keep.refl _ _ | refine kpS ?_ (by first | (simp; done) | (simp; omega) | omega) | refine kpA ?_ _ | refine kpD ?_ | refine kpN ?_ _)) (fun k hk => by have := HL1.out; show _ ≤ _; omega) (fun k hk => ⟨by have := HL1.out; omega, apart_or HT2.out (by first | exact .inl HOK.out | exact .inr HOK.out) hk.1 hk.2⟩), (H2.out.keepB (famVS d) (Keep.weak (f := (w.heap.size + 2 ≤ ·)) (by with_reducible repeat (first | exact Keep.refl _ _ | refine kpS ?_ (by first | (simp; done) | (simp; omega) | omega) | refine kpA ?_ _ | refine kpD ?_ | refine kpN ?_ _)) (fun k (hk : B2 ≤ k) => by have := HL2.out; show _ ≤ _; omega))), HT2.out.le (by have := HE2.out; simp; omega), by have := HB.out; exact blBy⟩
set_option maxHeartbeats 1000000
def defV (v : CV CM) : Bool := (v.n == 0) && ((v.b.length : Int) == 0)
/-- Whether a typed field is more than if it were not there. -/
def toldO (o : FT) (f : CF CM) : Bool := if o.lab = 0 then (match f.vs with | v :: _ => !(defV v) | [] => true) else if o.lab = 2 ∨ o.lab = 3 ∨ o.lab = 5 then decide (0 < f.vs.length) else true
def toldB (fs : List FT) (f : CF CM) : Bool := toldO (ownF fs f.num) f
def takenO (o : FT) (ok : Bool) (k : Int) : Bool := ok && (tvF o k || trF o k)
def takenB (fs : List FT) (e : CE) : Bool := takenO (ownF fs e.num) (hasF fs e.num) e.kind
theorem told_zero {o : FT} {f : CF CM} (h0 : o.lab = 0) (h : 0 < f.vs.length) : toldO o f = !((f.vs[0].n == 0) && ((f.vs[0].b.length : Int) == 0)) := by
  obtain ⟨num, ks, vs⟩ := f
  cases vs with
  | nil => simp at h
  | cons v r => simp only [toldO, h0, if_pos, defV, List.getElem_cons_zero]
theorem isDefM (w : World) (n : Int) (ba ma : Option Addr) (bn bc mn mc : Nat) (l1 : bn ≤ 4000000) : Calls Tryz.prog 103 #[.agg #[.int .u64 n, .slice ba bn bc, .slice ma mn mc]] w fun e w' => e = .returned (.bool ((n == 0) && ((bn : Int) == 0))) ∧ Below w.heap.size w w' := by
  have m1 : (bn : Int) ≤ 9223372036854775807 := by omega
  go_enter Tryz.func103, Tryz.ntmps103
  go_wp2
  all_goals (go_ret; exact ⟨ret_bool (by simp [*]), by exact blBy⟩)
theorem isToldM (w : World) (x : TV) (hx : TyR w x) (hr : Rise x.t.fs) (hl : x.t.fs.length ≤ 128) (Z : Nat → Prop) (d : Nat) (cs : List Value) (f : CF CM) (hf : FldE w Z (MsgE w Z d) cs f) (hv : (ownF x.t.fs f.num).lab = 0 → 0 < f.vs.length) : Calls Tryz.prog 69 #[.agg (cTV x).toArray, .agg cs.toArray] w fun e w' => e = .returned (.bool (toldB x.t.fs f)) ∧ Below w.heap.size w w' := by
  obtain ⟨ta1, tc1, ta2, tc2, ta3, tc3, ta4, tc4, e1, e2, e3, e4⟩ := shT_of hx
  have ecx : cTV x = [.string (strOfNums x.t.name), .bool x.t.enum, .slice ta1 x.t.fs.length tc1, .slice ta2 x.t.os.length tc2, .slice ta3 x.t.ss.length tc3, .slice ta4 x.t.rs.length tc4] := by unfold cTV; rw [e1, e2, e3, e4]
  rw [ecx]
  have HFO := hid fun W (hW : Below w.heap.size w W) => findT x.t.fs f.num W ta1 tc1 (by rw [← e1]; exact (hx.kept hW).f) hr hl
  obtain ⟨ka, kc, va, vc, rfl, -, g2, l1, l2, -⟩ := fld_open hf
  have G := hid g2
  have m2 : (f.vs.length : Int) ≤ 9223372036854775807 := by omega
  have HX0 : Hid (toldB x.t.fs f = toldO (ownF x.t.fs f.num) f) := hid rfl
  generalize toldB x.t.fs f = res at *
  generalize ownF x.t.fs f.num = o at *
  generalize hasF x.t.fs f.num = ok at *
  clear hx hf g2 hr hl e1 e2 e3 e4 ecx
  by_cases h0 : o.lab = 0
  · have hvl := hv h0
    obtain ⟨b1, o1, ba1, bc1, ma1, mc1, rfl, -, hb1, c0, c1, c2, he⟩ := vls_at G.out (i := 0) hvl
    obtain ⟨_, _, _, _, e5, -, -, bl1, -, -⟩ := val_open he
    clear e5 he
    have HX : Hid (res = !((f.vs[0].n == 0) && ((f.vs[0].b.length : Int) == 0))) := hid (by rw [HX0.out]; exact told_zero h0 hvl)
    have k0 : (o.lab == 0) = true := by simp [h0]
    have k1 : (0 : Int) < (f.vs.length : Int) := by omega
    have hvl' := hid hvl
    clear HX0 h0 hv
    generalize f.vs[0] = v at *
    simp only [Nat.zero_mul, Nat.add_zero] at c0 c1 c2
    go_enter Tryz.func69, Tryz.ntmps69
    go_wp2_with fail
    refine (HFO.out _ (by exact blBy)).mono ?_
    rintro e w1 ⟨rfl, hbx⟩
    unfold tFT
    have HB1 : Hid (Below w.heap.size w w1) := hid (bl_then (by exact blBy) hbx)
    have Bf : Blk w1 (w.heap.size + 1) 29 #[.int .i64 f.num, .slice ka f.ks.length kc, .slice (some ⟨b1, o1, none⟩) f.vs.length vc] := (Blk.newAt (by simp)).kept hbx
    have xf := Bf.cellF
    have zf := Bf.lt
    replace c0 := cell_below c0 HB1.out
    replace c1 := cell_below c1 HB1.out
    replace c2 := cell_below c2 HB1.out
    replace hb1 : b1 < w1.heap.size := World.block_lt_of_cell? _ _ c0
    clear hbx HFO Bf
    go_wp2_with fail
    refine (isDefM _ v.n ba1 ma1 v.b.length bc1 v.ms.length mc1 bl1).mono ?_
    rintro e w2 ⟨rfl, hb2⟩
    have HB2 : Hid (Below w.heap.size w w2) := hid (bl_then (by have := HB1.out; exact blBy) hb2)
    clear hb2
    go_wp2
    go_ret
    exact ⟨ret_bool (by rw [HX.out]; simp), HB2.out⟩
  have k0 : (o.lab == 0) = false := by simpa using h0
  by_cases h2 : o.lab = 2
  · have k2 : (o.lab == 2) = true := by simp [h2]
    have HX : Hid (res = decide (0 < f.vs.length)) := hid (by rw [HX0.out]; unfold toldO; rw [if_neg h0, if_pos (by omega)])
    clear HX0 h0  h2 hv
    by_cases hn : 0 < f.vs.length
    · have k1 : (0 < (f.vs.length : Int)) = True := eq_true (by omega)
      have k9 : (0 < f.vs.length) = True := eq_true hn
      have HX2 : Hid (res = true) := hid (by rw [HX.out]; simpa using hn)
      clear hn HX
      go_enter Tryz.func69, Tryz.ntmps69
      go_wp2_with fail
      refine (HFO.out _ (by exact blBy)).mono ?_
      rintro e w1 ⟨rfl, hbx⟩
      unfold tFT
      have HB1 : Hid (Below w.heap.size w w1) := hid (bl_then (by exact blBy) hbx)
      have Bf : Blk w1 (w.heap.size + 1) 29 #[.int .i64 f.num, .slice ka f.ks.length kc, .slice va f.vs.length vc] := (Blk.newAt (by simp)).kept hbx
      have xf := Bf.cellF
      have zf := Bf.lt
      clear hbx HFO Bf
      go_wp2
      go_ret
      exact ⟨ret_bool HX2.out.symm, by have := HB1.out; exact blBy⟩
    · have k1 : (0 < (f.vs.length : Int)) = False := eq_false (by omega)
      have k9 : (0 < f.vs.length) = False := eq_false hn
      have HX2 : Hid (res = false) := hid (by rw [HX.out]; simpa using hn)
      clear hn HX
      go_enter Tryz.func69, Tryz.ntmps69
      go_wp2_with fail
      refine (HFO.out _ (by exact blBy)).mono ?_
      rintro e w1 ⟨rfl, hbx⟩
      unfold tFT
      have HB1 : Hid (Below w.heap.size w w1) := hid (bl_then (by exact blBy) hbx)
      have Bf : Blk w1 (w.heap.size + 1) 29 #[.int .i64 f.num, .slice ka f.ks.length kc, .slice va f.vs.length vc] := (Blk.newAt (by simp)).kept hbx
      have xf := Bf.cellF
      have zf := Bf.lt
      clear hbx HFO Bf
      go_wp2
      go_ret
      exact ⟨ret_bool HX2.out.symm, by have := HB1.out; exact blBy⟩
  by_cases h3 : o.lab = 3
  · have k3 : (o.lab == 3) = true := by simp [h3]
    have k2 : (o.lab == 2) = false := by simpa using h2
    have HX : Hid (res = decide (0 < f.vs.length)) := hid (by rw [HX0.out]; unfold toldO; rw [if_neg h0, if_pos (by omega)])
    clear HX0 h0 h2 h3 hv
    by_cases hn : 0 < f.vs.length
    · have k1 : (0 < (f.vs.length : Int)) = True := eq_true (by omega)
      have k9 : (0 < f.vs.length) = True := eq_true hn
      have HX2 : Hid (res = true) := hid (by rw [HX.out]; simpa using hn)
      clear hn HX
      go_enter Tryz.func69, Tryz.ntmps69
      go_wp2_with fail
      refine (HFO.out _ (by exact blBy)).mono ?_
      rintro e w1 ⟨rfl, hbx⟩
      unfold tFT
      have HB1 : Hid (Below w.heap.size w w1) := hid (bl_then (by exact blBy) hbx)
      have Bf : Blk w1 (w.heap.size + 1) 29 #[.int .i64 f.num, .slice ka f.ks.length kc, .slice va f.vs.length vc] := (Blk.newAt (by simp)).kept hbx
      have xf := Bf.cellF
      have zf := Bf.lt
      clear hbx HFO Bf
      go_wp2
      go_ret
      exact ⟨ret_bool HX2.out.symm, by have := HB1.out; exact blBy⟩
    · have k1 : (0 < (f.vs.length : Int)) = False := eq_false (by omega)
      have k9 : (0 < f.vs.length) = False := eq_false hn
      have HX2 : Hid (res = false) := hid (by rw [HX.out]; simpa using hn)
      clear hn HX
      go_enter Tryz.func69, Tryz.ntmps69
      go_wp2_with fail
      refine (HFO.out _ (by exact blBy)).mono ?_
      rintro e w1 ⟨rfl, hbx⟩
      unfold tFT
      have HB1 : Hid (Below w.heap.size w w1) := hid (bl_then (by exact blBy) hbx)
      have Bf : Blk w1 (w.heap.size + 1) 29 #[.int .i64 f.num, .slice ka f.ks.length kc, .slice va f.vs.length vc] := (Blk.newAt (by simp)).kept hbx
      have xf := Bf.cellF
      have zf := Bf.lt
      clear hbx HFO Bf
      go_wp2
      go_ret
      exact ⟨ret_bool HX2.out.symm, by have := HB1.out; exact blBy⟩
  by_cases h5 : o.lab = 5
  · have k5 : (o.lab == 5) = true := by simp [h5]
    have k2 : (o.lab == 2) = false := by simpa using h2
    have k3 : (o.lab == 3) = false := by simpa using h3
    have HX : Hid (res = decide (0 < f.vs.length)) := hid (by rw [HX0.out]; unfold toldO; rw [if_neg h0, if_pos (by omega)])
    clear HX0 h0 h2 h3 h5 hv
    by_cases hn : 0 < f.vs.length
    · have k1 : (0 < (f.vs.length : Int)) = True := eq_true (by omega)
      have k9 : (0 < f.vs.length) = True := eq_true hn
      have HX2 : Hid (res = true) := hid (by rw [HX.out]; simpa using hn)
      clear hn HX
      go_enter Tryz.func69, Tryz.ntmps69
      go_wp2_with fail
      refine (HFO.out _ (by exact blBy)).mono ?_
      rintro e w1 ⟨rfl, hbx⟩
      unfold tFT
      have HB1 : Hid (Below w.heap.size w w1) := hid (bl_then (by exact blBy) hbx)
      have Bf : Blk w1 (w.heap.size + 1) 29 #[.int .i64 f.num, .slice ka f.ks.length kc, .slice va f.vs.length vc] := (Blk.newAt (by simp)).kept hbx
      have xf := Bf.cellF
      have zf := Bf.lt
      clear hbx HFO Bf
      go_wp2
      go_ret
      exact ⟨ret_bool HX2.out.symm, by have := HB1.out; exact blBy⟩
    · have k1 : (0 < (f.vs.length : Int)) = False := eq_false (by omega)
      have k9 : (0 < f.vs.length) = False := eq_false hn
      have HX2 : Hid (res = false) := hid (by rw [HX.out]; simpa using hn)
      clear hn HX
      go_enter Tryz.func69, Tryz.ntmps69
      go_wp2_with fail
      refine (HFO.out _ (by exact blBy)).mono ?_
      rintro e w1 ⟨rfl, hbx⟩
      unfold tFT
      have HB1 : Hid (Below w.heap.size w w1) := hid (bl_then (by exact blBy) hbx)
      have Bf : Blk w1 (w.heap.size + 1) 29 #[.int .i64 f.num, .slice ka f.ks.length kc, .slice va f.vs.length vc] := (Blk.newAt (by simp)).kept hbx
      have xf := Bf.cellF
      have zf := Bf.lt
      clear hbx HFO Bf
      go_wp2
      go_ret
      exact ⟨ret_bool HX2.out.symm, by have := HB1.out; exact blBy⟩
  · have k2 : (o.lab == 2) = false := by simpa using h2
    have k3 : (o.lab == 3) = false := by simpa using h3
    have k5 : (o.lab == 5) = false := by simpa using h5
    have HX : Hid (res = true) := hid (by rw [HX0.out]; unfold toldO; rw [if_neg h0, if_neg (by omega)])
    clear HX0 h0 h2 h3 h5 hv
    go_enter Tryz.func69, Tryz.ntmps69
    go_wp2_with fail
    refine (HFO.out _ (by exact blBy)).mono ?_
    rintro e w1 ⟨rfl, hbx⟩
    unfold tFT
    have HB1 : Hid (Below w.heap.size w w1) := hid (bl_then (by exact blBy) hbx)
    have Bf : Blk w1 (w.heap.size + 1) 29 #[.int .i64 f.num, .slice ka f.ks.length kc, .slice va f.vs.length vc] := (Blk.newAt (by simp)).kept hbx
    have xf := Bf.cellF
    have zf := Bf.lt
    clear hbx HFO Bf
    go_wp2
    go_ret
    exact ⟨ret_bool HX.out.symm, by have := HB1.out; exact blBy⟩
theorem isTakenM (w : World) (x : TV) (hx : TyR w x) (hr : Rise x.t.fs) (hl : x.t.fs.length ≤ 128) (Z : Nat → Prop) (cs : List Value) (y : CE) (hy : EntE w Z cs y) : Calls Tryz.prog 71 #[.agg (cTV x).toArray, .agg cs.toArray] w fun e w' => e = .returned (.bool (takenB x.t.fs y)) ∧ Below w.heap.size w w' := by
  obtain ⟨ta1, tc1, ta2, tc2, ta3, tc3, ta4, tc4, e1, e2, e3, e4⟩ := shT_of hx
  have ecx : cTV x = [.string (strOfNums x.t.name), .bool x.t.enum, .slice ta1 x.t.fs.length tc1, .slice ta2 x.t.os.length tc2, .slice ta3 x.t.ss.length tc3, .slice ta4 x.t.rs.length tc4] := by unfold cTV; rw [e1, e2, e3, e4]
  rw [ecx]
  have HFO := hid fun W (hW : Below w.heap.size w W) => findT x.t.fs y.num W ta1 tc1 (by rw [← e1]; exact (hx.kept hW).f) hr hl
  obtain ⟨ba, bc, rfl, -⟩ := ent_open hy
  have HX0 : Hid (takenB x.t.fs y = takenO (ownF x.t.fs y.num) (hasF x.t.fs y.num) y.kind) := hid rfl
  generalize takenB x.t.fs y = res at *
  generalize ownF x.t.fs y.num = o at *
  generalize hasF x.t.fs y.num = ok at *
  clear hx hy hr hl e1 e2 e3 e4 ecx
  cases ok with
  | false =>
    have HX : Hid (res = false) := hid (by rw [HX0.out]; rfl)
    go_enter Tryz.func71, Tryz.ntmps71
    go_wp2_with fail
    refine (HFO.out _ (by exact blBy)).mono ?_
    rintro e w1 ⟨rfl, hbx⟩
    unfold tFT
    have HB1 : Hid (Below w.heap.size w w1) := hid (bl_then (by exact blBy) hbx)
    have Be : Blk w1 (w.heap.size + 1) 40 #[.int .i64 y.num, .int .i64 y.kind, .int .u64 y.n, .slice ba y.b.length bc] := (Blk.newAt (by simp)).kept hbx
    have xe := Be.cellF
    have ze := Be.lt
    clear hbx HFO
    go_wp2
    go_ret
    exact ⟨ret_bool HX.out.symm, by have := HB1.out; exact blBy⟩
  | true =>
    have HX1 : Hid (res = (tvF o y.kind || trF o y.kind)) := hid (by rw [HX0.out]; simp [takenO])
    have HTV := hid fun W => takesValueT o W y.kind
    have HTR := hid fun W => takesRowT o W y.kind
    cases hq : tvF o y.kind with
    | true =>
      rw [hq, Bool.true_or] at HX1
      rw [hq] at HTV
      go_enter Tryz.func71, Tryz.ntmps71
      go_wp2_with fail
      refine (HFO.out _ (by exact blBy)).mono ?_
      rintro e w1 ⟨rfl, hbx⟩
      unfold tFT
      have HB1 : Hid (Below w.heap.size w w1) := hid (bl_then (by exact blBy) hbx)
      have Be : Blk w1 (w.heap.size + 1) 40 #[.int .i64 y.num, .int .i64 y.kind, .int .u64 y.n, .slice ba y.b.length bc] := (Blk.newAt (by simp)).kept hbx
      have xe := Be.cellF
      have ze := Be.lt
      clear hbx HFO
      go_wp2_with fail
      refine (HTV.out _).mono ?_
      rintro e w2 ⟨rfl, hb2⟩
      have HB2 : Hid (Below w.heap.size w w2) := hid (bl_then (by have := HB1.out; exact blBy) hb2)
      clear hb2
      go_wp2
      go_ret
      exact ⟨ret_bool HX1.out.symm, HB2.out⟩
    | false =>
      rw [hq, Bool.false_or] at HX1
      rw [hq] at HTV
      go_enter Tryz.func71, Tryz.ntmps71
      go_wp2_with fail
      refine (HFO.out _ (by exact blBy)).mono ?_
      rintro e w1 ⟨rfl, hbx⟩
      unfold tFT
      have HB1 : Hid (Below w.heap.size w w1) := hid (bl_then (by exact blBy) hbx)
      have Be : Blk w1 (w.heap.size + 1) 40 #[.int .i64 y.num, .int .i64 y.kind, .int .u64 y.n, .slice ba y.b.length bc] := (Blk.newAt (by simp)).kept hbx
      have xe := Be.cellF
      have ze := Be.lt
      clear hbx HFO
      go_wp2_with fail
      refine (HTV.out _).mono ?_
      rintro e w2 ⟨rfl, hb2⟩
      have HB2 : Hid (Below w.heap.size w w2) := hid (bl_then (by have := HB1.out; exact blBy) hb2)
      have Be2 : Blk w2 (w.heap.size + 1) 40 #[.int .i64 y.num, .int .i64 y.kind, .int .u64 y.n, .slice ba y.b.length bc] := by first | exact Be.kept hb2 | exact (Be.kept (below_alloc _)).kept hb2
      have xe2 := Be2.cellF
      have Bo2 : Blk w2 w1.heap.size 77 #[.string (strOfNums o.name), .int .i64 o.num, .int .i64 o.kind, .int .i64 o.ref, .int .i64 o.lab, .int .i64 o.one, .int .i64 o.key] := (Blk.new _ _ _).kept hb2
      have xo2 := Bo2.cellF
      have zo2 := Bo2.lt
      have ze2 := Be2.lt
      clear hb2
      go_wp2_with fail
      refine (HTR.out _).mono ?_
      rintro e w3 ⟨rfl, hb3⟩
      have HB3 : Hid (Below w.heap.size w w3) := hid (bl_then (by have := HB2.out; exact blBy) hb3)
      clear hb3
      go_wp2
      go_ret
      exact ⟨ret_bool HX1.out.symm, HB3.out⟩
end Go.Proofs.YtnfdlnelfnigdaaGreatDoor
