/-
  The program's: is a step one that reads, or writes, at its place? (a part)
-/
import Derived.Test.YtpndejibjiojbaaDoorCVP2
import Derived.Maps.RangeWalk
namespace Go.Proofs.YtpndejibjiojbaaDoor
open Go.RowKit
set_option maxRecDepth 1000000
set_option linter.unusedVariables false
set_option linter.unusedSimpArgs false
set_option maxHeartbeats 4000000
theorem wr_21 (w : World) (bs : List BV) (ba : Option Addr) (bc : Nat) (hp : PgR w (.slice ba bs.length bc) bs) (hz : ∀ x ∈ bs, x.k.dec.length ≤ 140737488355328 ∧ x.k.enc.length ≤ 140737488355328) (caps : Array Value) (ah : Int → Bool) (hA : ∀ tg W, Below w.heap.size w W → Calls Tryd.prog 51 (#[.int .i64 tg] ++ caps) W (BoA W (ah tg))) (a b c d : Int) : Calls Tryd.prog 52 #[.slice ba bs.length bc, .agg #[.int .i64 21, .int .i64 a, .int .i64 b, .int .i64 c, .int .i64 d], .func (.func 51) #[] caps] w (BoA w (decide (d = 0) && (decide (c = 0) && (tgI a && (knum b))))) := by
  have hgd := gdIN
  obtain ⟨v, HX⟩ : ∃ v, Hid (v = (decide (d = 0) && (decide (c = 0) && (tgI a && (knum b))))) := ⟨_, hid rfl⟩
  rw [← HX.out]
  by_cases zd : d = 0
  case neg =>
    obtain rfl : v = false := by rw [HX.out]; simp [zd]
    have HS : Hid (∀ W zb, Blk W zb 3 (ints [a, b]) → Calls Tryd.prog 64 #[.int .i64 21, .slice (some ⟨zb, 0, none⟩) 2 2] W fun e w' => e = .returned (.agg #[.int .i64 21, .int .i64 a, .int .i64 b, .int .i64 0, .int .i64 0]) ∧ Below W.heap.size W w') := hid fun W zb hB => stepL W 21 [a, b] (by simp) zb hB
    have heq : ∀ W, (Op.equalIn 10000 37 (.agg #[.int .i64 21, .int .i64 a, .int .i64 b, .int .i64 c, .int .i64 d]) (.agg #[.int .i64 21, .int .i64 a, .int .i64 b, .int .i64 0, .int .i64 0])).run Tryd.prog W = .ok false W := fun W => by
      have := eqIN ⟨21, a, b, c, d⟩ ⟨21, a, b, 0, 0⟩ W
      rw [show inB ⟨21, a, b, c, d⟩ ⟨21, a, b, 0, 0⟩ = false by simp [inB, zd]] at this
      exact this
    clear HX zd hA hp hz
    go_enter Tryd.func52, Tryd.ntmps52
    go_wp2_with fail
    have Bs : Blk (w.alloc (.cells #[.int .i64 21, .int .i64 a, .int .i64 b, .int .i64 c, .int .i64 d] 37)) w.heap.size 37 #[.int .i64 21, .int .i64 a, .int .i64 b, .int .i64 c, .int .i64 d] := Blk.new _ _ _
    have HB : Hid (Below w.heap.size w (w.alloc (.cells #[.int .i64 21, .int .i64 a, .int .i64 b, .int .i64 c, .int .i64 d] 37))) := hid (by exact blBy)
    generalize w.alloc (.cells #[.int .i64 21, .int .i64 a, .int .i64 b, .int .i64 c, .int .i64 d] 37) = V at *
    refine wp_region_held_drew (S := fun W => ∀ i, W.cell? ⟨w.heap.size, i, none⟩ = #[.int .i64 21, .int .i64 a, .int .i64 b, .int .i64 c, .int .i64 d][i]?) (by kernel_rfl) ?_ (fun hHeld => ?_)
    · exact (Bs.kept (below_drew1 _)).cellF
    refine tkI 0 ?_
    try go_frame
    refine tkI 1 ?_
    try go_frame
    refine tkI 2 ?_
    try go_frame
    refine tkI 3 ?_
    try go_frame
    refine tkI 4 ?_
    try go_frame
    refine tkI 5 ?_
    try go_frame
    refine tkI 6 ?_
    try go_frame
    refine wpAnyH_ready (rs := [7]) (by kernel_rfl) (by simp) ?_
    refine AllReadyH.cons rfl (fun K hK => ?_) AllReadyH.nil
    go_simp
    refine hK.out _ _ ?_ (fun hHeld => ?_)
    · first | exact Bs.cellF | exact (Bs.kept (bl_drew (below_alloc _))).cellF | exact (Bs.kept (below_alloc _)).cellF
    clear hK K
    try go_frame
    refine wpAnyH_ready (rs := [8]) (by kernel_rfl) (by simp) ?_
    refine AllReadyH.cons rfl (fun K hK => ?_) AllReadyH.nil
    go_simp
    go_wp2_with (go_at_call 64; refine (HS.out _ _ ((Blk.new _ _ _).kept (below_drew1 _))).mono ?_; rintro e w1 ⟨rfl, hbx⟩; replace Bs := Bs.kept (below_trans (by first | exact Below.refl _ _ | exact below_drew1 _ | exact below_drewN _ _ | exact bl_drew (below_alloc _)) hbx); replace HB := hid (below_trans HB.out (below_trans (by first | exact Below.refl _ _ | exact below_drew1 _ | exact below_drewN _ _ | exact bl_drew (below_alloc _)) hbx)); clear hbx)
    refine hK.out _ _ ?_ (fun hHeld => ?_)
    · first | exact Bs.cellF | exact (Bs.kept (bl_drew (below_alloc _))).cellF | exact (Bs.kept (below_alloc _)).cellF
    clear hK K
    try go_frame
    refine tkI 9 ?_
    try go_frame
    refine tkI 10 ?_
    try go_frame
    refine tkU 11 ?_
    try go_frame
    refine tkU 12 ?_
    try go_frame
    refine tkU 13 ?_
    try go_frame
    refine tkI 14 ?_
    try go_frame
    refine tkI 15 ?_
    try go_frame
    refine tkU 16 ?_
    try go_frame
    refine tkU 17 ?_
    try go_frame
    refine tkU 18 ?_
    try go_frame
    refine tkI 19 ?_
    try go_frame
    refine tkI 20 ?_
    try go_frame
    refine wpAnyH_done (by kernel_rfl) ?_ _
    try simp only [Act.put, List.getElem_toArray, List.getElem_cons_succ, List.getElem_cons_zero, List.setIfInBounds_toArray, List.set_cons_zero, List.set_cons_succ]
    go_wp2
    go_ret
    exact ⟨rfl, HB.out⟩
  subst zd
  by_cases zc : c = 0
  case neg =>
    obtain rfl : v = false := by rw [HX.out]; simp [zc]
    have HS : Hid (∀ W zb, Blk W zb 3 (ints [a, b]) → Calls Tryd.prog 64 #[.int .i64 21, .slice (some ⟨zb, 0, none⟩) 2 2] W fun e w' => e = .returned (.agg #[.int .i64 21, .int .i64 a, .int .i64 b, .int .i64 0, .int .i64 0]) ∧ Below W.heap.size W w') := hid fun W zb hB => stepL W 21 [a, b] (by simp) zb hB
    have heq : ∀ W, (Op.equalIn 10000 37 (.agg #[.int .i64 21, .int .i64 a, .int .i64 b, .int .i64 c, .int .i64 0]) (.agg #[.int .i64 21, .int .i64 a, .int .i64 b, .int .i64 0, .int .i64 0])).run Tryd.prog W = .ok false W := fun W => by
      have := eqIN ⟨21, a, b, c, 0⟩ ⟨21, a, b, 0, 0⟩ W
      rw [show inB ⟨21, a, b, c, 0⟩ ⟨21, a, b, 0, 0⟩ = false by simp [inB, zc]] at this
      exact this
    clear HX zc hA hp hz
    go_enter Tryd.func52, Tryd.ntmps52
    go_wp2_with fail
    have Bs : Blk (w.alloc (.cells #[.int .i64 21, .int .i64 a, .int .i64 b, .int .i64 c, .int .i64 0] 37)) w.heap.size 37 #[.int .i64 21, .int .i64 a, .int .i64 b, .int .i64 c, .int .i64 0] := Blk.new _ _ _
    have HB : Hid (Below w.heap.size w (w.alloc (.cells #[.int .i64 21, .int .i64 a, .int .i64 b, .int .i64 c, .int .i64 0] 37))) := hid (by exact blBy)
    generalize w.alloc (.cells #[.int .i64 21, .int .i64 a, .int .i64 b, .int .i64 c, .int .i64 0] 37) = V at *
    refine wp_region_held_drew (S := fun W => ∀ i, W.cell? ⟨w.heap.size, i, none⟩ = #[.int .i64 21, .int .i64 a, .int .i64 b, .int .i64 c, .int .i64 0][i]?) (by kernel_rfl) ?_ (fun hHeld => ?_)
    · exact (Bs.kept (below_drew1 _)).cellF
    refine tkI 0 ?_
    try go_frame
    refine tkI 1 ?_
    try go_frame
    refine tkI 2 ?_
    try go_frame
    refine tkI 3 ?_
    try go_frame
    refine tkI 4 ?_
    try go_frame
    refine tkI 5 ?_
    try go_frame
    refine tkI 6 ?_
    try go_frame
    refine wpAnyH_ready (rs := [7]) (by kernel_rfl) (by simp) ?_
    refine AllReadyH.cons rfl (fun K hK => ?_) AllReadyH.nil
    go_simp
    refine hK.out _ _ ?_ (fun hHeld => ?_)
    · first | exact Bs.cellF | exact (Bs.kept (bl_drew (below_alloc _))).cellF | exact (Bs.kept (below_alloc _)).cellF
    clear hK K
    try go_frame
    refine wpAnyH_ready (rs := [8]) (by kernel_rfl) (by simp) ?_
    refine AllReadyH.cons rfl (fun K hK => ?_) AllReadyH.nil
    go_simp
    go_wp2_with (go_at_call 64; refine (HS.out _ _ ((Blk.new _ _ _).kept (below_drew1 _))).mono ?_; rintro e w1 ⟨rfl, hbx⟩; replace Bs := Bs.kept (below_trans (by first | exact Below.refl _ _ | exact below_drew1 _ | exact below_drewN _ _ | exact bl_drew (below_alloc _)) hbx); replace HB := hid (below_trans HB.out (below_trans (by first | exact Below.refl _ _ | exact below_drew1 _ | exact below_drewN _ _ | exact bl_drew (below_alloc _)) hbx)); clear hbx)
    refine hK.out _ _ ?_ (fun hHeld => ?_)
    · first | exact Bs.cellF | exact (Bs.kept (bl_drew (below_alloc _))).cellF | exact (Bs.kept (below_alloc _)).cellF
    clear hK K
    try go_frame
    refine tkI 9 ?_
    try go_frame
    refine tkI 10 ?_
    try go_frame
    refine tkU 11 ?_
    try go_frame
    refine tkU 12 ?_
    try go_frame
    refine tkU 13 ?_
    try go_frame
    refine tkI 14 ?_
    try go_frame
    refine tkI 15 ?_
    try go_frame
    refine tkU 16 ?_
    try go_frame
    refine tkU 17 ?_
    try go_frame
    refine tkU 18 ?_
    try go_frame
    refine tkI 19 ?_
    try go_frame
    refine tkI 20 ?_
    try go_frame
    refine wpAnyH_done (by kernel_rfl) ?_ _
    try simp only [Act.put, List.getElem_toArray, List.getElem_cons_succ, List.getElem_cons_zero, List.setIfInBounds_toArray, List.set_cons_zero, List.set_cons_succ]
    go_wp2
    go_ret
    exact ⟨rfl, HB.out⟩
  subst zc
  replace HX : Hid (v = (tgI a && (knum b))) := hid (by rw [HX.out]; simp)
  have HS : Hid (∀ W zb, Blk W zb 3 (ints [a, b]) → Calls Tryd.prog 64 #[.int .i64 21, .slice (some ⟨zb, 0, none⟩) 2 2] W fun e w' => e = .returned (.agg #[.int .i64 21, .int .i64 a, .int .i64 b, .int .i64 0, .int .i64 0]) ∧ Below W.heap.size W w') := hid fun W zb hB => stepL W 21 [a, b] (by simp) zb hB
  have heq : ∀ W, (Op.equalIn 10000 37 (.agg #[.int .i64 21, .int .i64 a, .int .i64 b, .int .i64 0, .int .i64 0]) (.agg #[.int .i64 21, .int .i64 a, .int .i64 b, .int .i64 0, .int .i64 0])).run Tryd.prog W = .ok true W := fun W => by
    have := eqIN ⟨21, a, b, 0, 0⟩ ⟨21, a, b, 0, 0⟩ W
    rw [(inB_iff _ _).2 rfl] at this
    exact this
  have H0 := hid (fun W => isTagP W a)
  cases s0 : tgI a with
  | false =>
    rw [s0] at H0
    obtain rfl : v = false := by rw [HX.out]; simp [s0]
    clear HX s0 hA hp hz
    go_enter Tryd.func52, Tryd.ntmps52
    go_wp2_with fail
    have Bs : Blk (w.alloc (.cells #[.int .i64 21, .int .i64 a, .int .i64 b, .int .i64 0, .int .i64 0] 37)) w.heap.size 37 #[.int .i64 21, .int .i64 a, .int .i64 b, .int .i64 0, .int .i64 0] := Blk.new _ _ _
    have HB : Hid (Below w.heap.size w (w.alloc (.cells #[.int .i64 21, .int .i64 a, .int .i64 b, .int .i64 0, .int .i64 0] 37))) := hid (by exact blBy)
    generalize w.alloc (.cells #[.int .i64 21, .int .i64 a, .int .i64 b, .int .i64 0, .int .i64 0] 37) = V at *
    refine wp_region_held_drew (S := fun W => ∀ i, W.cell? ⟨w.heap.size, i, none⟩ = #[.int .i64 21, .int .i64 a, .int .i64 b, .int .i64 0, .int .i64 0][i]?) (by kernel_rfl) ?_ (fun hHeld => ?_)
    · exact (Bs.kept (below_drew1 _)).cellF
    refine tkI 0 ?_
    try go_frame
    refine tkI 1 ?_
    try go_frame
    refine tkI 2 ?_
    try go_frame
    refine tkI 3 ?_
    try go_frame
    refine tkI 4 ?_
    try go_frame
    refine tkI 5 ?_
    try go_frame
    refine tkI 6 ?_
    try go_frame
    refine wpAnyH_ready (rs := [7]) (by kernel_rfl) (by simp) ?_
    refine AllReadyH.cons rfl (fun K hK => ?_) AllReadyH.nil
    go_simp
    refine hK.out _ _ ?_ (fun hHeld => ?_)
    · first | exact Bs.cellF | exact (Bs.kept (bl_drew (below_alloc _))).cellF | exact (Bs.kept (below_alloc _)).cellF
    clear hK K
    try go_frame
    refine wpAnyH_ready (rs := [8]) (by kernel_rfl) (by simp) ?_
    refine AllReadyH.cons rfl (fun K hK => ?_) AllReadyH.nil
    go_simp
    go_wp2_with (go_at_call 64; refine (HS.out _ _ ((Blk.new _ _ _).kept (below_drew1 _))).mono ?_; rintro e w1 ⟨rfl, hbx⟩; replace Bs := Bs.kept (below_trans (by first | exact Below.refl _ _ | exact below_drew1 _ | exact below_drewN _ _ | exact bl_drew (below_alloc _)) hbx); replace HB := hid (below_trans HB.out (below_trans (by first | exact Below.refl _ _ | exact below_drew1 _ | exact below_drewN _ _ | exact bl_drew (below_alloc _)) hbx)); clear hbx)
    refine hK.out _ _ ?_ (fun hHeld => ?_)
    · first | exact Bs.cellF | exact (Bs.kept (bl_drew (below_alloc _))).cellF | exact (Bs.kept (below_alloc _)).cellF
    clear hK K
    try go_frame
    refine tkI 9 ?_
    try go_frame
    refine tkI 10 ?_
    try go_frame
    refine tkI 11 ?_
    try go_frame
    refine tkI 12 ?_
    try go_frame
    refine wpAnyH_ready (rs := [13]) (by kernel_rfl) (by simp) ?_
    refine AllReadyH.cons rfl (fun K hK => ?_) AllReadyH.nil
    go_simp
    go_wp2_with (go_at_call 54; refine (H0.out _).mono ?_; rintro e w2 ⟨rfl, rfl⟩)
    refine hK.out _ _ ?_ (fun hHeld => ?_)
    · first | exact Bs.cellF | exact (Bs.kept (bl_drew (below_alloc _))).cellF | exact (Bs.kept (below_alloc _)).cellF
    clear hK K
    try go_frame
    refine tkI 14 ?_
    try go_frame
    refine tkI 15 ?_
    try go_frame
    refine tkU 16 ?_
    try go_frame
    refine tkU 17 ?_
    try go_frame
    refine tkU 18 ?_
    try go_frame
    refine tkI 19 ?_
    try go_frame
    refine tkI 20 ?_
    try go_frame
    refine wpAnyH_done (by kernel_rfl) ?_ _
    try simp only [Act.put, List.getElem_toArray, List.getElem_cons_succ, List.getElem_cons_zero, List.setIfInBounds_toArray, List.set_cons_zero, List.set_cons_succ]
    go_wp2
    go_ret
    exact ⟨rfl, HB.out⟩
  | true =>
  rw [s0] at H0
  replace HX : Hid (v = (knum b)) := hid (by rw [HX.out]; simp [s0])
  clear s0
  have H1 := hid (fun W => numericW b W)
  cases s1 : knum b with
  | false =>
    rw [s1] at H1
    obtain rfl : v = false := by rw [HX.out]; simp [s1]
    clear HX s1 hA hp hz
    go_enter Tryd.func52, Tryd.ntmps52
    go_wp2_with fail
    have Bs : Blk (w.alloc (.cells #[.int .i64 21, .int .i64 a, .int .i64 b, .int .i64 0, .int .i64 0] 37)) w.heap.size 37 #[.int .i64 21, .int .i64 a, .int .i64 b, .int .i64 0, .int .i64 0] := Blk.new _ _ _
    have HB : Hid (Below w.heap.size w (w.alloc (.cells #[.int .i64 21, .int .i64 a, .int .i64 b, .int .i64 0, .int .i64 0] 37))) := hid (by exact blBy)
    generalize w.alloc (.cells #[.int .i64 21, .int .i64 a, .int .i64 b, .int .i64 0, .int .i64 0] 37) = V at *
    refine wp_region_held_drew (S := fun W => ∀ i, W.cell? ⟨w.heap.size, i, none⟩ = #[.int .i64 21, .int .i64 a, .int .i64 b, .int .i64 0, .int .i64 0][i]?) (by kernel_rfl) ?_ (fun hHeld => ?_)
    · exact (Bs.kept (below_drew1 _)).cellF
    refine tkI 0 ?_
    try go_frame
    refine tkI 1 ?_
    try go_frame
    refine tkI 2 ?_
    try go_frame
    refine tkI 3 ?_
    try go_frame
    refine tkI 4 ?_
    try go_frame
    refine tkI 5 ?_
    try go_frame
    refine tkI 6 ?_
    try go_frame
    refine wpAnyH_ready (rs := [7]) (by kernel_rfl) (by simp) ?_
    refine AllReadyH.cons rfl (fun K hK => ?_) AllReadyH.nil
    go_simp
    refine hK.out _ _ ?_ (fun hHeld => ?_)
    · first | exact Bs.cellF | exact (Bs.kept (bl_drew (below_alloc _))).cellF | exact (Bs.kept (below_alloc _)).cellF
    clear hK K
    try go_frame
    refine wpAnyH_ready (rs := [8]) (by kernel_rfl) (by simp) ?_
    refine AllReadyH.cons rfl (fun K hK => ?_) AllReadyH.nil
    go_simp
    go_wp2_with (go_at_call 64; refine (HS.out _ _ ((Blk.new _ _ _).kept (below_drew1 _))).mono ?_; rintro e w1 ⟨rfl, hbx⟩; replace Bs := Bs.kept (below_trans (by first | exact Below.refl _ _ | exact below_drew1 _ | exact below_drewN _ _ | exact bl_drew (below_alloc _)) hbx); replace HB := hid (below_trans HB.out (below_trans (by first | exact Below.refl _ _ | exact below_drew1 _ | exact below_drewN _ _ | exact bl_drew (below_alloc _)) hbx)); clear hbx)
    refine hK.out _ _ ?_ (fun hHeld => ?_)
    · first | exact Bs.cellF | exact (Bs.kept (bl_drew (below_alloc _))).cellF | exact (Bs.kept (below_alloc _)).cellF
    clear hK K
    try go_frame
    refine tkI 9 ?_
    try go_frame
    refine tkI 10 ?_
    try go_frame
    refine tkI 11 ?_
    try go_frame
    refine tkI 12 ?_
    try go_frame
    refine wpAnyH_ready (rs := [13]) (by kernel_rfl) (by simp) ?_
    refine AllReadyH.cons rfl (fun K hK => ?_) AllReadyH.nil
    go_simp
    go_wp2_with (go_at_call 54; refine (H0.out _).mono ?_; rintro e w2 ⟨rfl, rfl⟩)
    refine hK.out _ _ ?_ (fun hHeld => ?_)
    · first | exact Bs.cellF | exact (Bs.kept (bl_drew (below_alloc _))).cellF | exact (Bs.kept (below_alloc _)).cellF
    clear hK K
    try go_frame
    refine tkI 14 ?_
    try go_frame
    refine tkI 15 ?_
    try go_frame
    refine tkI 16 ?_
    try go_frame
    refine tkI 17 ?_
    try go_frame
    refine wpAnyH_ready (rs := [18]) (by kernel_rfl) (by simp) ?_
    refine AllReadyH.cons rfl (fun K hK => ?_) AllReadyH.nil
    go_simp
    go_wp2_with (go_at_call 69; refine (H1.out _).mono ?_; rintro e w2 ⟨rfl, rfl⟩)
    refine hK.out _ _ ?_ (fun hHeld => ?_)
    · first | exact Bs.cellF | exact (Bs.kept (bl_drew (below_alloc _))).cellF | exact (Bs.kept (below_alloc _)).cellF
    clear hK K
    try go_frame
    refine tkI 19 ?_
    try go_frame
    refine tkI 20 ?_
    try go_frame
    refine wpAnyH_done (by kernel_rfl) ?_ _
    try simp only [Act.put, List.getElem_toArray, List.getElem_cons_succ, List.getElem_cons_zero, List.setIfInBounds_toArray, List.set_cons_zero, List.set_cons_succ]
    go_wp2
    go_ret
    exact ⟨rfl, HB.out⟩
  | true =>
  rw [s1] at H1
  replace HX : Hid (v = (true)) := hid (by rw [HX.out]; simp [s1])
  clear s1
  obtain rfl : v = true := by first | exact HX.out | (rw [HX.out]; simp)
  clear HX hA hp hz
  go_enter Tryd.func52, Tryd.ntmps52
  go_wp2_with fail
  have Bs : Blk (w.alloc (.cells #[.int .i64 21, .int .i64 a, .int .i64 b, .int .i64 0, .int .i64 0] 37)) w.heap.size 37 #[.int .i64 21, .int .i64 a, .int .i64 b, .int .i64 0, .int .i64 0] := Blk.new _ _ _
  have HB : Hid (Below w.heap.size w (w.alloc (.cells #[.int .i64 21, .int .i64 a, .int .i64 b, .int .i64 0, .int .i64 0] 37))) := hid (by exact blBy)
  generalize w.alloc (.cells #[.int .i64 21, .int .i64 a, .int .i64 b, .int .i64 0, .int .i64 0] 37) = V at *
  refine wp_region_held_drew (S := fun W => ∀ i, W.cell? ⟨w.heap.size, i, none⟩ = #[.int .i64 21, .int .i64 a, .int .i64 b, .int .i64 0, .int .i64 0][i]?) (by kernel_rfl) ?_ (fun hHeld => ?_)
  · exact (Bs.kept (below_drew1 _)).cellF
  refine tkI 0 ?_
  try go_frame
  refine tkI 1 ?_
  try go_frame
  refine tkI 2 ?_
  try go_frame
  refine tkI 3 ?_
  try go_frame
  refine tkI 4 ?_
  try go_frame
  refine tkI 5 ?_
  try go_frame
  refine tkI 6 ?_
  try go_frame
  refine wpAnyH_ready (rs := [7]) (by kernel_rfl) (by simp) ?_
  refine AllReadyH.cons rfl (fun K hK => ?_) AllReadyH.nil
  go_simp
  refine hK.out _ _ ?_ (fun hHeld => ?_)
  · first | exact Bs.cellF | exact (Bs.kept (bl_drew (below_alloc _))).cellF | exact (Bs.kept (below_alloc _)).cellF
  clear hK K
  try go_frame
  refine wpAnyH_ready (rs := [8]) (by kernel_rfl) (by simp) ?_
  refine AllReadyH.cons rfl (fun K hK => ?_) AllReadyH.nil
  go_simp
  go_wp2_with (go_at_call 64; refine (HS.out _ _ ((Blk.new _ _ _).kept (below_drew1 _))).mono ?_; rintro e w1 ⟨rfl, hbx⟩; replace Bs := Bs.kept (below_trans (by first | exact Below.refl _ _ | exact below_drew1 _ | exact below_drewN _ _ | exact bl_drew (below_alloc _)) hbx); replace HB := hid (below_trans HB.out (below_trans (by first | exact Below.refl _ _ | exact below_drew1 _ | exact below_drewN _ _ | exact bl_drew (below_alloc _)) hbx)); clear hbx)
  refine hK.out _ _ ?_ (fun hHeld => ?_)
  · first | exact Bs.cellF | exact (Bs.kept (bl_drew (below_alloc _))).cellF | exact (Bs.kept (below_alloc _)).cellF
  clear hK K
  try go_frame
  refine tkI 9 ?_
  try go_frame
  refine tkI 10 ?_
  try go_frame
  refine tkI 11 ?_
  try go_frame
  refine tkI 12 ?_
  try go_frame
  refine wpAnyH_ready (rs := [13]) (by kernel_rfl) (by simp) ?_
  refine AllReadyH.cons rfl (fun K hK => ?_) AllReadyH.nil
  go_simp
  go_wp2_with (go_at_call 54; refine (H0.out _).mono ?_; rintro e w2 ⟨rfl, rfl⟩)
  refine hK.out _ _ ?_ (fun hHeld => ?_)
  · first | exact Bs.cellF | exact (Bs.kept (bl_drew (below_alloc _))).cellF | exact (Bs.kept (below_alloc _)).cellF
  clear hK K
  try go_frame
  refine tkI 14 ?_
  try go_frame
  refine tkI 15 ?_
  try go_frame
  refine tkI 16 ?_
  try go_frame
  refine tkI 17 ?_
  try go_frame
  refine wpAnyH_ready (rs := [18]) (by kernel_rfl) (by simp) ?_
  refine AllReadyH.cons rfl (fun K hK => ?_) AllReadyH.nil
  go_simp
  go_wp2_with (go_at_call 69; refine (H1.out _).mono ?_; rintro e w2 ⟨rfl, rfl⟩)
  refine hK.out _ _ ?_ (fun hHeld => ?_)
  · first | exact Bs.cellF | exact (Bs.kept (bl_drew (below_alloc _))).cellF | exact (Bs.kept (below_alloc _)).cellF
  clear hK K
  try go_frame
  refine tkI 19 ?_
  try go_frame
  refine tkI 20 ?_
  try go_frame
  refine wpAnyH_done (by kernel_rfl) ?_ _
  try simp only [Act.put, List.getElem_toArray, List.getElem_cons_succ, List.getElem_cons_zero, List.setIfInBounds_toArray, List.set_cons_zero, List.set_cons_succ]
  go_wp2
  go_ret
  exact ⟨rfl, HB.out⟩
theorem wr_23 (w : World) (bs : List BV) (ba : Option Addr) (bc : Nat) (hp : PgR w (.slice ba bs.length bc) bs) (hz : ∀ x ∈ bs, x.k.dec.length ≤ 140737488355328 ∧ x.k.enc.length ≤ 140737488355328) (caps : Array Value) (ah : Int → Bool) (hA : ∀ tg W, Below w.heap.size w W → Calls Tryd.prog 51 (#[.int .i64 tg] ++ caps) W (BoA W (ah tg))) (a b c d : Int) : Calls Tryd.prog 52 #[.slice ba bs.length bc, .agg #[.int .i64 23, .int .i64 a, .int .i64 b, .int .i64 c, .int .i64 d], .func (.func 51) #[] caps] w (BoA w (decide (d = 0) && (decide (c = 0) && (decide (b = 0) && (decide (a = 0)))))) := by
  have hgd := gdIN
  obtain ⟨v, HX⟩ : ∃ v, Hid (v = (decide (d = 0) && (decide (c = 0) && (decide (b = 0) && (decide (a = 0)))))) := ⟨_, hid rfl⟩
  rw [← HX.out]
  by_cases zd : d = 0
  case neg =>
    obtain rfl : v = false := by rw [HX.out]; simp [zd]
    have HS : Hid (∀ W, Calls Tryd.prog 64 #[.int .i64 23, .slice none 0 0] W fun e w' => e = .returned (.agg #[.int .i64 23, .int .i64 0, .int .i64 0, .int .i64 0, .int .i64 0]) ∧ Below W.heap.size W w') := hid fun W => stepT W 23 [] (by simp) none 0 (rowS_nil _ _ _)
    have heq : ∀ W, (Op.equalIn 10000 37 (.agg #[.int .i64 23, .int .i64 a, .int .i64 b, .int .i64 c, .int .i64 d]) (.agg #[.int .i64 23, .int .i64 0, .int .i64 0, .int .i64 0, .int .i64 0])).run Tryd.prog W = .ok false W := fun W => by
      have := eqIN ⟨23, a, b, c, d⟩ ⟨23, 0, 0, 0, 0⟩ W
      rw [show inB ⟨23, a, b, c, d⟩ ⟨23, 0, 0, 0, 0⟩ = false by simp [inB, zd]] at this
      exact this
    clear HX zd hA hp hz
    go_enter Tryd.func52, Tryd.ntmps52
    go_wp2_with fail
    have Bs : Blk (w.alloc (.cells #[.int .i64 23, .int .i64 a, .int .i64 b, .int .i64 c, .int .i64 d] 37)) w.heap.size 37 #[.int .i64 23, .int .i64 a, .int .i64 b, .int .i64 c, .int .i64 d] := Blk.new _ _ _
    have HB : Hid (Below w.heap.size w (w.alloc (.cells #[.int .i64 23, .int .i64 a, .int .i64 b, .int .i64 c, .int .i64 d] 37))) := hid (by exact blBy)
    generalize w.alloc (.cells #[.int .i64 23, .int .i64 a, .int .i64 b, .int .i64 c, .int .i64 d] 37) = V at *
    refine wp_region_held_drew (S := fun W => ∀ i, W.cell? ⟨w.heap.size, i, none⟩ = #[.int .i64 23, .int .i64 a, .int .i64 b, .int .i64 c, .int .i64 d][i]?) (by kernel_rfl) ?_ (fun hHeld => ?_)
    · exact (Bs.kept (below_drew1 _)).cellF
    refine tkI 0 ?_
    try go_frame
    refine tkI 1 ?_
    try go_frame
    refine tkI 2 ?_
    try go_frame
    refine wpAnyH_ready (rs := [3]) (by kernel_rfl) (by simp) ?_
    refine AllReadyH.cons rfl (fun K hK => ?_) AllReadyH.nil
    go_simp
    go_wp2_with (go_at_call 64; refine (HS.out _).mono ?_; rintro e w1 ⟨rfl, hbx⟩; replace Bs := Bs.kept (below_trans (by first | exact Below.refl _ _ | exact below_drew1 _ | exact below_drewN _ _ | exact bl_drew (below_alloc _)) hbx); replace HB := hid (below_trans HB.out (below_trans (by first | exact Below.refl _ _ | exact below_drew1 _ | exact below_drewN _ _ | exact bl_drew (below_alloc _)) hbx)); clear hbx)
    refine hK.out _ _ ?_ (fun hHeld => ?_)
    · first | exact Bs.cellF | exact (Bs.kept (bl_drew (below_alloc _))).cellF | exact (Bs.kept (below_alloc _)).cellF
    clear hK K
    try go_frame
    refine tkI 4 ?_
    try go_frame
    refine tkI 5 ?_
    try go_frame
    refine wpAnyH_done (by kernel_rfl) ?_ _
    try simp only [Act.put, List.getElem_toArray, List.getElem_cons_succ, List.getElem_cons_zero, List.setIfInBounds_toArray, List.set_cons_zero, List.set_cons_succ]
    go_wp2
    go_ret
    exact ⟨rfl, HB.out⟩
  subst zd
  by_cases zc : c = 0
  case neg =>
    obtain rfl : v = false := by rw [HX.out]; simp [zc]
    have HS : Hid (∀ W, Calls Tryd.prog 64 #[.int .i64 23, .slice none 0 0] W fun e w' => e = .returned (.agg #[.int .i64 23, .int .i64 0, .int .i64 0, .int .i64 0, .int .i64 0]) ∧ Below W.heap.size W w') := hid fun W => stepT W 23 [] (by simp) none 0 (rowS_nil _ _ _)
    have heq : ∀ W, (Op.equalIn 10000 37 (.agg #[.int .i64 23, .int .i64 a, .int .i64 b, .int .i64 c, .int .i64 0]) (.agg #[.int .i64 23, .int .i64 0, .int .i64 0, .int .i64 0, .int .i64 0])).run Tryd.prog W = .ok false W := fun W => by
      have := eqIN ⟨23, a, b, c, 0⟩ ⟨23, 0, 0, 0, 0⟩ W
      rw [show inB ⟨23, a, b, c, 0⟩ ⟨23, 0, 0, 0, 0⟩ = false by simp [inB, zc]] at this
      exact this
    clear HX zc hA hp hz
    go_enter Tryd.func52, Tryd.ntmps52
    go_wp2_with fail
    have Bs : Blk (w.alloc (.cells #[.int .i64 23, .int .i64 a, .int .i64 b, .int .i64 c, .int .i64 0] 37)) w.heap.size 37 #[.int .i64 23, .int .i64 a, .int .i64 b, .int .i64 c, .int .i64 0] := Blk.new _ _ _
    have HB : Hid (Below w.heap.size w (w.alloc (.cells #[.int .i64 23, .int .i64 a, .int .i64 b, .int .i64 c, .int .i64 0] 37))) := hid (by exact blBy)
    generalize w.alloc (.cells #[.int .i64 23, .int .i64 a, .int .i64 b, .int .i64 c, .int .i64 0] 37) = V at *
    refine wp_region_held_drew (S := fun W => ∀ i, W.cell? ⟨w.heap.size, i, none⟩ = #[.int .i64 23, .int .i64 a, .int .i64 b, .int .i64 c, .int .i64 0][i]?) (by kernel_rfl) ?_ (fun hHeld => ?_)
    · exact (Bs.kept (below_drew1 _)).cellF
    refine tkI 0 ?_
    try go_frame
    refine tkI 1 ?_
    try go_frame
    refine tkI 2 ?_
    try go_frame
    refine wpAnyH_ready (rs := [3]) (by kernel_rfl) (by simp) ?_
    refine AllReadyH.cons rfl (fun K hK => ?_) AllReadyH.nil
    go_simp
    go_wp2_with (go_at_call 64; refine (HS.out _).mono ?_; rintro e w1 ⟨rfl, hbx⟩; replace Bs := Bs.kept (below_trans (by first | exact Below.refl _ _ | exact below_drew1 _ | exact below_drewN _ _ | exact bl_drew (below_alloc _)) hbx); replace HB := hid (below_trans HB.out (below_trans (by first | exact Below.refl _ _ | exact below_drew1 _ | exact below_drewN _ _ | exact bl_drew (below_alloc _)) hbx)); clear hbx)
    refine hK.out _ _ ?_ (fun hHeld => ?_)
    · first | exact Bs.cellF | exact (Bs.kept (bl_drew (below_alloc _))).cellF | exact (Bs.kept (below_alloc _)).cellF
    clear hK K
    try go_frame
    refine tkI 4 ?_
    try go_frame
    refine tkI 5 ?_
    try go_frame
    refine wpAnyH_done (by kernel_rfl) ?_ _
    try simp only [Act.put, List.getElem_toArray, List.getElem_cons_succ, List.getElem_cons_zero, List.setIfInBounds_toArray, List.set_cons_zero, List.set_cons_succ]
    go_wp2
    go_ret
    exact ⟨rfl, HB.out⟩
  subst zc
  by_cases zb : b = 0
  case neg =>
    obtain rfl : v = false := by rw [HX.out]; simp [zb]
    have HS : Hid (∀ W, Calls Tryd.prog 64 #[.int .i64 23, .slice none 0 0] W fun e w' => e = .returned (.agg #[.int .i64 23, .int .i64 0, .int .i64 0, .int .i64 0, .int .i64 0]) ∧ Below W.heap.size W w') := hid fun W => stepT W 23 [] (by simp) none 0 (rowS_nil _ _ _)
    have heq : ∀ W, (Op.equalIn 10000 37 (.agg #[.int .i64 23, .int .i64 a, .int .i64 b, .int .i64 0, .int .i64 0]) (.agg #[.int .i64 23, .int .i64 0, .int .i64 0, .int .i64 0, .int .i64 0])).run Tryd.prog W = .ok false W := fun W => by
      have := eqIN ⟨23, a, b, 0, 0⟩ ⟨23, 0, 0, 0, 0⟩ W
      rw [show inB ⟨23, a, b, 0, 0⟩ ⟨23, 0, 0, 0, 0⟩ = false by simp [inB, zb]] at this
      exact this
    clear HX zb hA hp hz
    go_enter Tryd.func52, Tryd.ntmps52
    go_wp2_with fail
    have Bs : Blk (w.alloc (.cells #[.int .i64 23, .int .i64 a, .int .i64 b, .int .i64 0, .int .i64 0] 37)) w.heap.size 37 #[.int .i64 23, .int .i64 a, .int .i64 b, .int .i64 0, .int .i64 0] := Blk.new _ _ _
    have HB : Hid (Below w.heap.size w (w.alloc (.cells #[.int .i64 23, .int .i64 a, .int .i64 b, .int .i64 0, .int .i64 0] 37))) := hid (by exact blBy)
    generalize w.alloc (.cells #[.int .i64 23, .int .i64 a, .int .i64 b, .int .i64 0, .int .i64 0] 37) = V at *
    refine wp_region_held_drew (S := fun W => ∀ i, W.cell? ⟨w.heap.size, i, none⟩ = #[.int .i64 23, .int .i64 a, .int .i64 b, .int .i64 0, .int .i64 0][i]?) (by kernel_rfl) ?_ (fun hHeld => ?_)
    · exact (Bs.kept (below_drew1 _)).cellF
    refine tkI 0 ?_
    try go_frame
    refine tkI 1 ?_
    try go_frame
    refine tkI 2 ?_
    try go_frame
    refine wpAnyH_ready (rs := [3]) (by kernel_rfl) (by simp) ?_
    refine AllReadyH.cons rfl (fun K hK => ?_) AllReadyH.nil
    go_simp
    go_wp2_with (go_at_call 64; refine (HS.out _).mono ?_; rintro e w1 ⟨rfl, hbx⟩; replace Bs := Bs.kept (below_trans (by first | exact Below.refl _ _ | exact below_drew1 _ | exact below_drewN _ _ | exact bl_drew (below_alloc _)) hbx); replace HB := hid (below_trans HB.out (below_trans (by first | exact Below.refl _ _ | exact below_drew1 _ | exact below_drewN _ _ | exact bl_drew (below_alloc _)) hbx)); clear hbx)
    refine hK.out _ _ ?_ (fun hHeld => ?_)
    · first | exact Bs.cellF | exact (Bs.kept (bl_drew (below_alloc _))).cellF | exact (Bs.kept (below_alloc _)).cellF
    clear hK K
    try go_frame
    refine tkI 4 ?_
    try go_frame
    refine tkI 5 ?_
    try go_frame
    refine wpAnyH_done (by kernel_rfl) ?_ _
    try simp only [Act.put, List.getElem_toArray, List.getElem_cons_succ, List.getElem_cons_zero, List.setIfInBounds_toArray, List.set_cons_zero, List.set_cons_succ]
    go_wp2
    go_ret
    exact ⟨rfl, HB.out⟩
  subst zb
  by_cases za : a = 0
  case neg =>
    obtain rfl : v = false := by rw [HX.out]; simp [za]
    have HS : Hid (∀ W, Calls Tryd.prog 64 #[.int .i64 23, .slice none 0 0] W fun e w' => e = .returned (.agg #[.int .i64 23, .int .i64 0, .int .i64 0, .int .i64 0, .int .i64 0]) ∧ Below W.heap.size W w') := hid fun W => stepT W 23 [] (by simp) none 0 (rowS_nil _ _ _)
    have heq : ∀ W, (Op.equalIn 10000 37 (.agg #[.int .i64 23, .int .i64 a, .int .i64 0, .int .i64 0, .int .i64 0]) (.agg #[.int .i64 23, .int .i64 0, .int .i64 0, .int .i64 0, .int .i64 0])).run Tryd.prog W = .ok false W := fun W => by
      have := eqIN ⟨23, a, 0, 0, 0⟩ ⟨23, 0, 0, 0, 0⟩ W
      rw [show inB ⟨23, a, 0, 0, 0⟩ ⟨23, 0, 0, 0, 0⟩ = false by simp [inB, za]] at this
      exact this
    clear HX za hA hp hz
    go_enter Tryd.func52, Tryd.ntmps52
    go_wp2_with fail
    have Bs : Blk (w.alloc (.cells #[.int .i64 23, .int .i64 a, .int .i64 0, .int .i64 0, .int .i64 0] 37)) w.heap.size 37 #[.int .i64 23, .int .i64 a, .int .i64 0, .int .i64 0, .int .i64 0] := Blk.new _ _ _
    have HB : Hid (Below w.heap.size w (w.alloc (.cells #[.int .i64 23, .int .i64 a, .int .i64 0, .int .i64 0, .int .i64 0] 37))) := hid (by exact blBy)
    generalize w.alloc (.cells #[.int .i64 23, .int .i64 a, .int .i64 0, .int .i64 0, .int .i64 0] 37) = V at *
    refine wp_region_held_drew (S := fun W => ∀ i, W.cell? ⟨w.heap.size, i, none⟩ = #[.int .i64 23, .int .i64 a, .int .i64 0, .int .i64 0, .int .i64 0][i]?) (by kernel_rfl) ?_ (fun hHeld => ?_)
    · exact (Bs.kept (below_drew1 _)).cellF
    refine tkI 0 ?_
    try go_frame
    refine tkI 1 ?_
    try go_frame
    refine tkI 2 ?_
    try go_frame
    refine wpAnyH_ready (rs := [3]) (by kernel_rfl) (by simp) ?_
    refine AllReadyH.cons rfl (fun K hK => ?_) AllReadyH.nil
    go_simp
    go_wp2_with (go_at_call 64; refine (HS.out _).mono ?_; rintro e w1 ⟨rfl, hbx⟩; replace Bs := Bs.kept (below_trans (by first | exact Below.refl _ _ | exact below_drew1 _ | exact below_drewN _ _ | exact bl_drew (below_alloc _)) hbx); replace HB := hid (below_trans HB.out (below_trans (by first | exact Below.refl _ _ | exact below_drew1 _ | exact below_drewN _ _ | exact bl_drew (below_alloc _)) hbx)); clear hbx)
    refine hK.out _ _ ?_ (fun hHeld => ?_)
    · first | exact Bs.cellF | exact (Bs.kept (bl_drew (below_alloc _))).cellF | exact (Bs.kept (below_alloc _)).cellF
    clear hK K
    try go_frame
    refine tkI 4 ?_
    try go_frame
    refine tkI 5 ?_
    try go_frame
    refine wpAnyH_done (by kernel_rfl) ?_ _
    try simp only [Act.put, List.getElem_toArray, List.getElem_cons_succ, List.getElem_cons_zero, List.setIfInBounds_toArray, List.set_cons_zero, List.set_cons_succ]
    go_wp2
    go_ret
    exact ⟨rfl, HB.out⟩
  subst za
  replace HX : Hid (v = (true)) := hid (by rw [HX.out]; simp)
  have HS : Hid (∀ W, Calls Tryd.prog 64 #[.int .i64 23, .slice none 0 0] W fun e w' => e = .returned (.agg #[.int .i64 23, .int .i64 0, .int .i64 0, .int .i64 0, .int .i64 0]) ∧ Below W.heap.size W w') := hid fun W => stepT W 23 [] (by simp) none 0 (rowS_nil _ _ _)
  have heq : ∀ W, (Op.equalIn 10000 37 (.agg #[.int .i64 23, .int .i64 0, .int .i64 0, .int .i64 0, .int .i64 0]) (.agg #[.int .i64 23, .int .i64 0, .int .i64 0, .int .i64 0, .int .i64 0])).run Tryd.prog W = .ok true W := fun W => by
    have := eqIN ⟨23, 0, 0, 0, 0⟩ ⟨23, 0, 0, 0, 0⟩ W
    rw [(inB_iff _ _).2 rfl] at this
    exact this
  obtain rfl : v = true := by first | exact HX.out | (rw [HX.out]; simp)
  clear HX hA hp hz
  go_enter Tryd.func52, Tryd.ntmps52
  go_wp2_with fail
  have Bs : Blk (w.alloc (.cells #[.int .i64 23, .int .i64 0, .int .i64 0, .int .i64 0, .int .i64 0] 37)) w.heap.size 37 #[.int .i64 23, .int .i64 0, .int .i64 0, .int .i64 0, .int .i64 0] := Blk.new _ _ _
  have HB : Hid (Below w.heap.size w (w.alloc (.cells #[.int .i64 23, .int .i64 0, .int .i64 0, .int .i64 0, .int .i64 0] 37))) := hid (by exact blBy)
  generalize w.alloc (.cells #[.int .i64 23, .int .i64 0, .int .i64 0, .int .i64 0, .int .i64 0] 37) = V at *
  refine wp_region_held_drew (S := fun W => ∀ i, W.cell? ⟨w.heap.size, i, none⟩ = #[.int .i64 23, .int .i64 0, .int .i64 0, .int .i64 0, .int .i64 0][i]?) (by kernel_rfl) ?_ (fun hHeld => ?_)
  · exact (Bs.kept (below_drew1 _)).cellF
  refine tkI 0 ?_
  try go_frame
  refine tkI 1 ?_
  try go_frame
  refine tkI 2 ?_
  try go_frame
  refine wpAnyH_ready (rs := [3]) (by kernel_rfl) (by simp) ?_
  refine AllReadyH.cons rfl (fun K hK => ?_) AllReadyH.nil
  go_simp
  go_wp2_with (go_at_call 64; refine (HS.out _).mono ?_; rintro e w1 ⟨rfl, hbx⟩; replace Bs := Bs.kept (below_trans (by first | exact Below.refl _ _ | exact below_drew1 _ | exact below_drewN _ _ | exact bl_drew (below_alloc _)) hbx); replace HB := hid (below_trans HB.out (below_trans (by first | exact Below.refl _ _ | exact below_drew1 _ | exact below_drewN _ _ | exact bl_drew (below_alloc _)) hbx)); clear hbx)
  refine hK.out _ _ ?_ (fun hHeld => ?_)
  · first | exact Bs.cellF | exact (Bs.kept (bl_drew (below_alloc _))).cellF | exact (Bs.kept (below_alloc _)).cellF
  clear hK K
  try go_frame
  refine tkI 4 ?_
  try go_frame
  refine tkI 5 ?_
  try go_frame
  refine wpAnyH_done (by kernel_rfl) ?_ _
  try simp only [Act.put, List.getElem_toArray, List.getElem_cons_succ, List.getElem_cons_zero, List.setIfInBounds_toArray, List.set_cons_zero, List.set_cons_succ]
  go_wp2
  go_ret
  exact ⟨rfl, HB.out⟩
theorem wr_24 (w : World) (bs : List BV) (ba : Option Addr) (bc : Nat) (hp : PgR w (.slice ba bs.length bc) bs) (hz : ∀ x ∈ bs, x.k.dec.length ≤ 140737488355328 ∧ x.k.enc.length ≤ 140737488355328) (caps : Array Value) (ah : Int → Bool) (hA : ∀ tg W, Below w.heap.size w W → Calls Tryd.prog 51 (#[.int .i64 tg] ++ caps) W (BoA W (ah tg))) (a b c d : Int) : Calls Tryd.prog 52 #[.slice ba bs.length bc, .agg #[.int .i64 24, .int .i64 a, .int .i64 b, .int .i64 c, .int .i64 d], .func (.func 51) #[] caps] w (BoA w (decide (d = 0) && (decide (c = 0) && (decide (b = 0) && (decide (a = 0)))))) := by
  have hgd := gdIN
  obtain ⟨v, HX⟩ : ∃ v, Hid (v = (decide (d = 0) && (decide (c = 0) && (decide (b = 0) && (decide (a = 0)))))) := ⟨_, hid rfl⟩
  rw [← HX.out]
  by_cases zd : d = 0
  case neg =>
    obtain rfl : v = false := by rw [HX.out]; simp [zd]
    have HS : Hid (∀ W, Calls Tryd.prog 64 #[.int .i64 24, .slice none 0 0] W fun e w' => e = .returned (.agg #[.int .i64 24, .int .i64 0, .int .i64 0, .int .i64 0, .int .i64 0]) ∧ Below W.heap.size W w') := hid fun W => stepT W 24 [] (by simp) none 0 (rowS_nil _ _ _)
    have heq : ∀ W, (Op.equalIn 10000 37 (.agg #[.int .i64 24, .int .i64 a, .int .i64 b, .int .i64 c, .int .i64 d]) (.agg #[.int .i64 24, .int .i64 0, .int .i64 0, .int .i64 0, .int .i64 0])).run Tryd.prog W = .ok false W := fun W => by
      have := eqIN ⟨24, a, b, c, d⟩ ⟨24, 0, 0, 0, 0⟩ W
      rw [show inB ⟨24, a, b, c, d⟩ ⟨24, 0, 0, 0, 0⟩ = false by simp [inB, zd]] at this
      exact this
    clear HX zd hA hp hz
    go_enter Tryd.func52, Tryd.ntmps52
    go_wp2_with fail
    have Bs : Blk (w.alloc (.cells #[.int .i64 24, .int .i64 a, .int .i64 b, .int .i64 c, .int .i64 d] 37)) w.heap.size 37 #[.int .i64 24, .int .i64 a, .int .i64 b, .int .i64 c, .int .i64 d] := Blk.new _ _ _
    have HB : Hid (Below w.heap.size w (w.alloc (.cells #[.int .i64 24, .int .i64 a, .int .i64 b, .int .i64 c, .int .i64 d] 37))) := hid (by exact blBy)
    generalize w.alloc (.cells #[.int .i64 24, .int .i64 a, .int .i64 b, .int .i64 c, .int .i64 d] 37) = V at *
    refine wp_region_held_drew (S := fun W => ∀ i, W.cell? ⟨w.heap.size, i, none⟩ = #[.int .i64 24, .int .i64 a, .int .i64 b, .int .i64 c, .int .i64 d][i]?) (by kernel_rfl) ?_ (fun hHeld => ?_)
    · exact (Bs.kept (below_drew1 _)).cellF
    refine tkI 0 ?_
    try go_frame
    refine tkI 1 ?_
    try go_frame
    refine tkI 2 ?_
    try go_frame
    refine wpAnyH_ready (rs := [3]) (by kernel_rfl) (by simp) ?_
    refine AllReadyH.cons rfl (fun K hK => ?_) AllReadyH.nil
    go_simp
    go_wp2_with (go_at_call 64; refine (HS.out _).mono ?_; rintro e w1 ⟨rfl, hbx⟩; replace Bs := Bs.kept (below_trans (by first | exact Below.refl _ _ | exact below_drew1 _ | exact below_drewN _ _ | exact bl_drew (below_alloc _)) hbx); replace HB := hid (below_trans HB.out (below_trans (by first | exact Below.refl _ _ | exact below_drew1 _ | exact below_drewN _ _ | exact bl_drew (below_alloc _)) hbx)); clear hbx)
    refine hK.out _ _ ?_ (fun hHeld => ?_)
    · first | exact Bs.cellF | exact (Bs.kept (bl_drew (below_alloc _))).cellF | exact (Bs.kept (below_alloc _)).cellF
    clear hK K
    try go_frame
    refine tkI 4 ?_
    try go_frame
    refine tkI 5 ?_
    try go_frame
    refine wpAnyH_done (by kernel_rfl) ?_ _
    try simp only [Act.put, List.getElem_toArray, List.getElem_cons_succ, List.getElem_cons_zero, List.setIfInBounds_toArray, List.set_cons_zero, List.set_cons_succ]
    go_wp2
    go_ret
    exact ⟨rfl, HB.out⟩
  subst zd
  by_cases zc : c = 0
  case neg =>
    obtain rfl : v = false := by rw [HX.out]; simp [zc]
    have HS : Hid (∀ W, Calls Tryd.prog 64 #[.int .i64 24, .slice none 0 0] W fun e w' => e = .returned (.agg #[.int .i64 24, .int .i64 0, .int .i64 0, .int .i64 0, .int .i64 0]) ∧ Below W.heap.size W w') := hid fun W => stepT W 24 [] (by simp) none 0 (rowS_nil _ _ _)
    have heq : ∀ W, (Op.equalIn 10000 37 (.agg #[.int .i64 24, .int .i64 a, .int .i64 b, .int .i64 c, .int .i64 0]) (.agg #[.int .i64 24, .int .i64 0, .int .i64 0, .int .i64 0, .int .i64 0])).run Tryd.prog W = .ok false W := fun W => by
      have := eqIN ⟨24, a, b, c, 0⟩ ⟨24, 0, 0, 0, 0⟩ W
      rw [show inB ⟨24, a, b, c, 0⟩ ⟨24, 0, 0, 0, 0⟩ = false by simp [inB, zc]] at this
      exact this
    clear HX zc hA hp hz
    go_enter Tryd.func52, Tryd.ntmps52
    go_wp2_with fail
    have Bs : Blk (w.alloc (.cells #[.int .i64 24, .int .i64 a, .int .i64 b, .int .i64 c, .int .i64 0] 37)) w.heap.size 37 #[.int .i64 24, .int .i64 a, .int .i64 b, .int .i64 c, .int .i64 0] := Blk.new _ _ _
    have HB : Hid (Below w.heap.size w (w.alloc (.cells #[.int .i64 24, .int .i64 a, .int .i64 b, .int .i64 c, .int .i64 0] 37))) := hid (by exact blBy)
    generalize w.alloc (.cells #[.int .i64 24, .int .i64 a, .int .i64 b, .int .i64 c, .int .i64 0] 37) = V at *
    refine wp_region_held_drew (S := fun W => ∀ i, W.cell? ⟨w.heap.size, i, none⟩ = #[.int .i64 24, .int .i64 a, .int .i64 b, .int .i64 c, .int .i64 0][i]?) (by kernel_rfl) ?_ (fun hHeld => ?_)
    · exact (Bs.kept (below_drew1 _)).cellF
    refine tkI 0 ?_
    try go_frame
    refine tkI 1 ?_
    try go_frame
    refine tkI 2 ?_
    try go_frame
    refine wpAnyH_ready (rs := [3]) (by kernel_rfl) (by simp) ?_
    refine AllReadyH.cons rfl (fun K hK => ?_) AllReadyH.nil
    go_simp
    go_wp2_with (go_at_call 64; refine (HS.out _).mono ?_; rintro e w1 ⟨rfl, hbx⟩; replace Bs := Bs.kept (below_trans (by first | exact Below.refl _ _ | exact below_drew1 _ | exact below_drewN _ _ | exact bl_drew (below_alloc _)) hbx); replace HB := hid (below_trans HB.out (below_trans (by first | exact Below.refl _ _ | exact below_drew1 _ | exact below_drewN _ _ | exact bl_drew (below_alloc _)) hbx)); clear hbx)
    refine hK.out _ _ ?_ (fun hHeld => ?_)
    · first | exact Bs.cellF | exact (Bs.kept (bl_drew (below_alloc _))).cellF | exact (Bs.kept (below_alloc _)).cellF
    clear hK K
    try go_frame
    refine tkI 4 ?_
    try go_frame
    refine tkI 5 ?_
    try go_frame
    refine wpAnyH_done (by kernel_rfl) ?_ _
    try simp only [Act.put, List.getElem_toArray, List.getElem_cons_succ, List.getElem_cons_zero, List.setIfInBounds_toArray, List.set_cons_zero, List.set_cons_succ]
    go_wp2
    go_ret
    exact ⟨rfl, HB.out⟩
  subst zc
  by_cases zb : b = 0
  case neg =>
    obtain rfl : v = false := by rw [HX.out]; simp [zb]
    have HS : Hid (∀ W, Calls Tryd.prog 64 #[.int .i64 24, .slice none 0 0] W fun e w' => e = .returned (.agg #[.int .i64 24, .int .i64 0, .int .i64 0, .int .i64 0, .int .i64 0]) ∧ Below W.heap.size W w') := hid fun W => stepT W 24 [] (by simp) none 0 (rowS_nil _ _ _)
    have heq : ∀ W, (Op.equalIn 10000 37 (.agg #[.int .i64 24, .int .i64 a, .int .i64 b, .int .i64 0, .int .i64 0]) (.agg #[.int .i64 24, .int .i64 0, .int .i64 0, .int .i64 0, .int .i64 0])).run Tryd.prog W = .ok false W := fun W => by
      have := eqIN ⟨24, a, b, 0, 0⟩ ⟨24, 0, 0, 0, 0⟩ W
      rw [show inB ⟨24, a, b, 0, 0⟩ ⟨24, 0, 0, 0, 0⟩ = false by simp [inB, zb]] at this
      exact this
    clear HX zb hA hp hz
    go_enter Tryd.func52, Tryd.ntmps52
    go_wp2_with fail
    have Bs : Blk (w.alloc (.cells #[.int .i64 24, .int .i64 a, .int .i64 b, .int .i64 0, .int .i64 0] 37)) w.heap.size 37 #[.int .i64 24, .int .i64 a, .int .i64 b, .int .i64 0, .int .i64 0] := Blk.new _ _ _
    have HB : Hid (Below w.heap.size w (w.alloc (.cells #[.int .i64 24, .int .i64 a, .int .i64 b, .int .i64 0, .int .i64 0] 37))) := hid (by exact blBy)
    generalize w.alloc (.cells #[.int .i64 24, .int .i64 a, .int .i64 b, .int .i64 0, .int .i64 0] 37) = V at *
    refine wp_region_held_drew (S := fun W => ∀ i, W.cell? ⟨w.heap.size, i, none⟩ = #[.int .i64 24, .int .i64 a, .int .i64 b, .int .i64 0, .int .i64 0][i]?) (by kernel_rfl) ?_ (fun hHeld => ?_)
    · exact (Bs.kept (below_drew1 _)).cellF
    refine tkI 0 ?_
    try go_frame
    refine tkI 1 ?_
    try go_frame
    refine tkI 2 ?_
    try go_frame
    refine wpAnyH_ready (rs := [3]) (by kernel_rfl) (by simp) ?_
    refine AllReadyH.cons rfl (fun K hK => ?_) AllReadyH.nil
    go_simp
    go_wp2_with (go_at_call 64; refine (HS.out _).mono ?_; rintro e w1 ⟨rfl, hbx⟩; replace Bs := Bs.kept (below_trans (by first | exact Below.refl _ _ | exact below_drew1 _ | exact below_drewN _ _ | exact bl_drew (below_alloc _)) hbx); replace HB := hid (below_trans HB.out (below_trans (by first | exact Below.refl _ _ | exact below_drew1 _ | exact below_drewN _ _ | exact bl_drew (below_alloc _)) hbx)); clear hbx)
    refine hK.out _ _ ?_ (fun hHeld => ?_)
    · first | exact Bs.cellF | exact (Bs.kept (bl_drew (below_alloc _))).cellF | exact (Bs.kept (below_alloc _)).cellF
    clear hK K
    try go_frame
    refine tkI 4 ?_
    try go_frame
    refine tkI 5 ?_
    try go_frame
    refine wpAnyH_done (by kernel_rfl) ?_ _
    try simp only [Act.put, List.getElem_toArray, List.getElem_cons_succ, List.getElem_cons_zero, List.setIfInBounds_toArray, List.set_cons_zero, List.set_cons_succ]
    go_wp2
    go_ret
    exact ⟨rfl, HB.out⟩
  subst zb
  by_cases za : a = 0
  case neg =>
    obtain rfl : v = false := by rw [HX.out]; simp [za]
    have HS : Hid (∀ W, Calls Tryd.prog 64 #[.int .i64 24, .slice none 0 0] W fun e w' => e = .returned (.agg #[.int .i64 24, .int .i64 0, .int .i64 0, .int .i64 0, .int .i64 0]) ∧ Below W.heap.size W w') := hid fun W => stepT W 24 [] (by simp) none 0 (rowS_nil _ _ _)
    have heq : ∀ W, (Op.equalIn 10000 37 (.agg #[.int .i64 24, .int .i64 a, .int .i64 0, .int .i64 0, .int .i64 0]) (.agg #[.int .i64 24, .int .i64 0, .int .i64 0, .int .i64 0, .int .i64 0])).run Tryd.prog W = .ok false W := fun W => by
      have := eqIN ⟨24, a, 0, 0, 0⟩ ⟨24, 0, 0, 0, 0⟩ W
      rw [show inB ⟨24, a, 0, 0, 0⟩ ⟨24, 0, 0, 0, 0⟩ = false by simp [inB, za]] at this
      exact this
    clear HX za hA hp hz
    go_enter Tryd.func52, Tryd.ntmps52
    go_wp2_with fail
    have Bs : Blk (w.alloc (.cells #[.int .i64 24, .int .i64 a, .int .i64 0, .int .i64 0, .int .i64 0] 37)) w.heap.size 37 #[.int .i64 24, .int .i64 a, .int .i64 0, .int .i64 0, .int .i64 0] := Blk.new _ _ _
    have HB : Hid (Below w.heap.size w (w.alloc (.cells #[.int .i64 24, .int .i64 a, .int .i64 0, .int .i64 0, .int .i64 0] 37))) := hid (by exact blBy)
    generalize w.alloc (.cells #[.int .i64 24, .int .i64 a, .int .i64 0, .int .i64 0, .int .i64 0] 37) = V at *
    refine wp_region_held_drew (S := fun W => ∀ i, W.cell? ⟨w.heap.size, i, none⟩ = #[.int .i64 24, .int .i64 a, .int .i64 0, .int .i64 0, .int .i64 0][i]?) (by kernel_rfl) ?_ (fun hHeld => ?_)
    · exact (Bs.kept (below_drew1 _)).cellF
    refine tkI 0 ?_
    try go_frame
    refine tkI 1 ?_
    try go_frame
    refine tkI 2 ?_
    try go_frame
    refine wpAnyH_ready (rs := [3]) (by kernel_rfl) (by simp) ?_
    refine AllReadyH.cons rfl (fun K hK => ?_) AllReadyH.nil
    go_simp
    go_wp2_with (go_at_call 64; refine (HS.out _).mono ?_; rintro e w1 ⟨rfl, hbx⟩; replace Bs := Bs.kept (below_trans (by first | exact Below.refl _ _ | exact below_drew1 _ | exact below_drewN _ _ | exact bl_drew (below_alloc _)) hbx); replace HB := hid (below_trans HB.out (below_trans (by first | exact Below.refl _ _ | exact below_drew1 _ | exact below_drewN _ _ | exact bl_drew (below_alloc _)) hbx)); clear hbx)
    refine hK.out _ _ ?_ (fun hHeld => ?_)
    · first | exact Bs.cellF | exact (Bs.kept (bl_drew (below_alloc _))).cellF | exact (Bs.kept (below_alloc _)).cellF
    clear hK K
    try go_frame
    refine tkI 4 ?_
    try go_frame
    refine tkI 5 ?_
    try go_frame
    refine wpAnyH_done (by kernel_rfl) ?_ _
    try simp only [Act.put, List.getElem_toArray, List.getElem_cons_succ, List.getElem_cons_zero, List.setIfInBounds_toArray, List.set_cons_zero, List.set_cons_succ]
    go_wp2
    go_ret
    exact ⟨rfl, HB.out⟩
  subst za
  replace HX : Hid (v = (true)) := hid (by rw [HX.out]; simp)
  have HS : Hid (∀ W, Calls Tryd.prog 64 #[.int .i64 24, .slice none 0 0] W fun e w' => e = .returned (.agg #[.int .i64 24, .int .i64 0, .int .i64 0, .int .i64 0, .int .i64 0]) ∧ Below W.heap.size W w') := hid fun W => stepT W 24 [] (by simp) none 0 (rowS_nil _ _ _)
  have heq : ∀ W, (Op.equalIn 10000 37 (.agg #[.int .i64 24, .int .i64 0, .int .i64 0, .int .i64 0, .int .i64 0]) (.agg #[.int .i64 24, .int .i64 0, .int .i64 0, .int .i64 0, .int .i64 0])).run Tryd.prog W = .ok true W := fun W => by
    have := eqIN ⟨24, 0, 0, 0, 0⟩ ⟨24, 0, 0, 0, 0⟩ W
    rw [(inB_iff _ _).2 rfl] at this
    exact this
  obtain rfl : v = true := by first | exact HX.out | (rw [HX.out]; simp)
  clear HX hA hp hz
  go_enter Tryd.func52, Tryd.ntmps52
  go_wp2_with fail
  have Bs : Blk (w.alloc (.cells #[.int .i64 24, .int .i64 0, .int .i64 0, .int .i64 0, .int .i64 0] 37)) w.heap.size 37 #[.int .i64 24, .int .i64 0, .int .i64 0, .int .i64 0, .int .i64 0] := Blk.new _ _ _
  have HB : Hid (Below w.heap.size w (w.alloc (.cells #[.int .i64 24, .int .i64 0, .int .i64 0, .int .i64 0, .int .i64 0] 37))) := hid (by exact blBy)
  generalize w.alloc (.cells #[.int .i64 24, .int .i64 0, .int .i64 0, .int .i64 0, .int .i64 0] 37) = V at *
  refine wp_region_held_drew (S := fun W => ∀ i, W.cell? ⟨w.heap.size, i, none⟩ = #[.int .i64 24, .int .i64 0, .int .i64 0, .int .i64 0, .int .i64 0][i]?) (by kernel_rfl) ?_ (fun hHeld => ?_)
  · exact (Bs.kept (below_drew1 _)).cellF
  refine tkI 0 ?_
  try go_frame
  refine tkI 1 ?_
  try go_frame
  refine tkI 2 ?_
  try go_frame
  refine wpAnyH_ready (rs := [3]) (by kernel_rfl) (by simp) ?_
  refine AllReadyH.cons rfl (fun K hK => ?_) AllReadyH.nil
  go_simp
  go_wp2_with (go_at_call 64; refine (HS.out _).mono ?_; rintro e w1 ⟨rfl, hbx⟩; replace Bs := Bs.kept (below_trans (by first | exact Below.refl _ _ | exact below_drew1 _ | exact below_drewN _ _ | exact bl_drew (below_alloc _)) hbx); replace HB := hid (below_trans HB.out (below_trans (by first | exact Below.refl _ _ | exact below_drew1 _ | exact below_drewN _ _ | exact bl_drew (below_alloc _)) hbx)); clear hbx)
  refine hK.out _ _ ?_ (fun hHeld => ?_)
  · first | exact Bs.cellF | exact (Bs.kept (bl_drew (below_alloc _))).cellF | exact (Bs.kept (below_alloc _)).cellF
  clear hK K
  try go_frame
  refine tkI 4 ?_
  try go_frame
  refine tkI 5 ?_
  try go_frame
  refine wpAnyH_done (by kernel_rfl) ?_ _
  try simp only [Act.put, List.getElem_toArray, List.getElem_cons_succ, List.getElem_cons_zero, List.setIfInBounds_toArray, List.set_cons_zero, List.set_cons_succ]
  go_wp2
  go_ret
  exact ⟨rfl, HB.out⟩
theorem wr_25 (w : World) (bs : List BV) (ba : Option Addr) (bc : Nat) (hp : PgR w (.slice ba bs.length bc) bs) (hz : ∀ x ∈ bs, x.k.dec.length ≤ 140737488355328 ∧ x.k.enc.length ≤ 140737488355328) (caps : Array Value) (ah : Int → Bool) (hA : ∀ tg W, Below w.heap.size w W → Calls Tryd.prog 51 (#[.int .i64 tg] ++ caps) W (BoA W (ah tg))) (a b c d : Int) : Calls Tryd.prog 52 #[.slice ba bs.length bc, .agg #[.int .i64 25, .int .i64 a, .int .i64 b, .int .i64 c, .int .i64 d], .func (.func 51) #[] caps] w (BoA w (decide (d = 0) && (decide (c = 0) && (tgI a && (sgI b))))) := by
  have hgd := gdIN
  obtain ⟨v, HX⟩ : ∃ v, Hid (v = (decide (d = 0) && (decide (c = 0) && (tgI a && (sgI b))))) := ⟨_, hid rfl⟩
  rw [← HX.out]
  by_cases zd : d = 0
  case neg =>
    obtain rfl : v = false := by rw [HX.out]; simp [zd]
    have HS : Hid (∀ W zb, Blk W zb 3 (ints [a, b]) → Calls Tryd.prog 64 #[.int .i64 25, .slice (some ⟨zb, 0, none⟩) 2 2] W fun e w' => e = .returned (.agg #[.int .i64 25, .int .i64 a, .int .i64 b, .int .i64 0, .int .i64 0]) ∧ Below W.heap.size W w') := hid fun W zb hB => stepL W 25 [a, b] (by simp) zb hB
    have heq : ∀ W, (Op.equalIn 10000 37 (.agg #[.int .i64 25, .int .i64 a, .int .i64 b, .int .i64 c, .int .i64 d]) (.agg #[.int .i64 25, .int .i64 a, .int .i64 b, .int .i64 0, .int .i64 0])).run Tryd.prog W = .ok false W := fun W => by
      have := eqIN ⟨25, a, b, c, d⟩ ⟨25, a, b, 0, 0⟩ W
      rw [show inB ⟨25, a, b, c, d⟩ ⟨25, a, b, 0, 0⟩ = false by simp [inB, zd]] at this
      exact this
    clear HX zd hA hp hz
    go_enter Tryd.func52, Tryd.ntmps52
    go_wp2_with fail
    have Bs : Blk (w.alloc (.cells #[.int .i64 25, .int .i64 a, .int .i64 b, .int .i64 c, .int .i64 d] 37)) w.heap.size 37 #[.int .i64 25, .int .i64 a, .int .i64 b, .int .i64 c, .int .i64 d] := Blk.new _ _ _
    have HB : Hid (Below w.heap.size w (w.alloc (.cells #[.int .i64 25, .int .i64 a, .int .i64 b, .int .i64 c, .int .i64 d] 37))) := hid (by exact blBy)
    generalize w.alloc (.cells #[.int .i64 25, .int .i64 a, .int .i64 b, .int .i64 c, .int .i64 d] 37) = V at *
    refine wp_region_held_drew (S := fun W => ∀ i, W.cell? ⟨w.heap.size, i, none⟩ = #[.int .i64 25, .int .i64 a, .int .i64 b, .int .i64 c, .int .i64 d][i]?) (by kernel_rfl) ?_ (fun hHeld => ?_)
    · exact (Bs.kept (below_drew1 _)).cellF
    refine tkI 0 ?_
    try go_frame
    refine tkI 1 ?_
    try go_frame
    refine tkI 2 ?_
    try go_frame
    refine tkI 3 ?_
    try go_frame
    refine tkI 4 ?_
    try go_frame
    refine tkI 5 ?_
    try go_frame
    refine tkI 6 ?_
    try go_frame
    refine wpAnyH_ready (rs := [7]) (by kernel_rfl) (by simp) ?_
    refine AllReadyH.cons rfl (fun K hK => ?_) AllReadyH.nil
    go_simp
    refine hK.out _ _ ?_ (fun hHeld => ?_)
    · first | exact Bs.cellF | exact (Bs.kept (bl_drew (below_alloc _))).cellF | exact (Bs.kept (below_alloc _)).cellF
    clear hK K
    try go_frame
    refine wpAnyH_ready (rs := [8]) (by kernel_rfl) (by simp) ?_
    refine AllReadyH.cons rfl (fun K hK => ?_) AllReadyH.nil
    go_simp
    go_wp2_with (go_at_call 64; refine (HS.out _ _ ((Blk.new _ _ _).kept (below_drew1 _))).mono ?_; rintro e w1 ⟨rfl, hbx⟩; replace Bs := Bs.kept (below_trans (by first | exact Below.refl _ _ | exact below_drew1 _ | exact below_drewN _ _ | exact bl_drew (below_alloc _)) hbx); replace HB := hid (below_trans HB.out (below_trans (by first | exact Below.refl _ _ | exact below_drew1 _ | exact below_drewN _ _ | exact bl_drew (below_alloc _)) hbx)); clear hbx)
    refine hK.out _ _ ?_ (fun hHeld => ?_)
    · first | exact Bs.cellF | exact (Bs.kept (bl_drew (below_alloc _))).cellF | exact (Bs.kept (below_alloc _)).cellF
    clear hK K
    try go_frame
    refine tkI 9 ?_
    try go_frame
    refine tkI 10 ?_
    try go_frame
    refine tkU 11 ?_
    try go_frame
    refine tkU 12 ?_
    try go_frame
    refine tkU 13 ?_
    try go_frame
    refine tkI 14 ?_
    try go_frame
    refine tkI 15 ?_
    try go_frame
    refine tkU 16 ?_
    try go_frame
    refine tkU 17 ?_
    try go_frame
    refine tkU 18 ?_
    try go_frame
    refine tkI 19 ?_
    try go_frame
    refine tkI 20 ?_
    try go_frame
    refine wpAnyH_done (by kernel_rfl) ?_ _
    try simp only [Act.put, List.getElem_toArray, List.getElem_cons_succ, List.getElem_cons_zero, List.setIfInBounds_toArray, List.set_cons_zero, List.set_cons_succ]
    go_wp2
    go_ret
    exact ⟨rfl, HB.out⟩
  subst zd
  by_cases zc : c = 0
  case neg =>
    obtain rfl : v = false := by rw [HX.out]; simp [zc]
    have HS : Hid (∀ W zb, Blk W zb 3 (ints [a, b]) → Calls Tryd.prog 64 #[.int .i64 25, .slice (some ⟨zb, 0, none⟩) 2 2] W fun e w' => e = .returned (.agg #[.int .i64 25, .int .i64 a, .int .i64 b, .int .i64 0, .int .i64 0]) ∧ Below W.heap.size W w') := hid fun W zb hB => stepL W 25 [a, b] (by simp) zb hB
    have heq : ∀ W, (Op.equalIn 10000 37 (.agg #[.int .i64 25, .int .i64 a, .int .i64 b, .int .i64 c, .int .i64 0]) (.agg #[.int .i64 25, .int .i64 a, .int .i64 b, .int .i64 0, .int .i64 0])).run Tryd.prog W = .ok false W := fun W => by
      have := eqIN ⟨25, a, b, c, 0⟩ ⟨25, a, b, 0, 0⟩ W
      rw [show inB ⟨25, a, b, c, 0⟩ ⟨25, a, b, 0, 0⟩ = false by simp [inB, zc]] at this
      exact this
    clear HX zc hA hp hz
    go_enter Tryd.func52, Tryd.ntmps52
    go_wp2_with fail
    have Bs : Blk (w.alloc (.cells #[.int .i64 25, .int .i64 a, .int .i64 b, .int .i64 c, .int .i64 0] 37)) w.heap.size 37 #[.int .i64 25, .int .i64 a, .int .i64 b, .int .i64 c, .int .i64 0] := Blk.new _ _ _
    have HB : Hid (Below w.heap.size w (w.alloc (.cells #[.int .i64 25, .int .i64 a, .int .i64 b, .int .i64 c, .int .i64 0] 37))) := hid (by exact blBy)
    generalize w.alloc (.cells #[.int .i64 25, .int .i64 a, .int .i64 b, .int .i64 c, .int .i64 0] 37) = V at *
    refine wp_region_held_drew (S := fun W => ∀ i, W.cell? ⟨w.heap.size, i, none⟩ = #[.int .i64 25, .int .i64 a, .int .i64 b, .int .i64 c, .int .i64 0][i]?) (by kernel_rfl) ?_ (fun hHeld => ?_)
    · exact (Bs.kept (below_drew1 _)).cellF
    refine tkI 0 ?_
    try go_frame
    refine tkI 1 ?_
    try go_frame
    refine tkI 2 ?_
    try go_frame
    refine tkI 3 ?_
    try go_frame
    refine tkI 4 ?_
    try go_frame
    refine tkI 5 ?_
    try go_frame
    refine tkI 6 ?_
    try go_frame
    refine wpAnyH_ready (rs := [7]) (by kernel_rfl) (by simp) ?_
    refine AllReadyH.cons rfl (fun K hK => ?_) AllReadyH.nil
    go_simp
    refine hK.out _ _ ?_ (fun hHeld => ?_)
    · first | exact Bs.cellF | exact (Bs.kept (bl_drew (below_alloc _))).cellF | exact (Bs.kept (below_alloc _)).cellF
    clear hK K
    try go_frame
    refine wpAnyH_ready (rs := [8]) (by kernel_rfl) (by simp) ?_
    refine AllReadyH.cons rfl (fun K hK => ?_) AllReadyH.nil
    go_simp
    go_wp2_with (go_at_call 64; refine (HS.out _ _ ((Blk.new _ _ _).kept (below_drew1 _))).mono ?_; rintro e w1 ⟨rfl, hbx⟩; replace Bs := Bs.kept (below_trans (by first | exact Below.refl _ _ | exact below_drew1 _ | exact below_drewN _ _ | exact bl_drew (below_alloc _)) hbx); replace HB := hid (below_trans HB.out (below_trans (by first | exact Below.refl _ _ | exact below_drew1 _ | exact below_drewN _ _ | exact bl_drew (below_alloc _)) hbx)); clear hbx)
    refine hK.out _ _ ?_ (fun hHeld => ?_)
    · first | exact Bs.cellF | exact (Bs.kept (bl_drew (below_alloc _))).cellF | exact (Bs.kept (below_alloc _)).cellF
    clear hK K
    try go_frame
    refine tkI 9 ?_
    try go_frame
    refine tkI 10 ?_
    try go_frame
    refine tkU 11 ?_
    try go_frame
    refine tkU 12 ?_
    try go_frame
    refine tkU 13 ?_
    try go_frame
    refine tkI 14 ?_
    try go_frame
    refine tkI 15 ?_
    try go_frame
    refine tkU 16 ?_
    try go_frame
    refine tkU 17 ?_
    try go_frame
    refine tkU 18 ?_
    try go_frame
    refine tkI 19 ?_
    try go_frame
    refine tkI 20 ?_
    try go_frame
    refine wpAnyH_done (by kernel_rfl) ?_ _
    try simp only [Act.put, List.getElem_toArray, List.getElem_cons_succ, List.getElem_cons_zero, List.setIfInBounds_toArray, List.set_cons_zero, List.set_cons_succ]
    go_wp2
    go_ret
    exact ⟨rfl, HB.out⟩
  subst zc
  replace HX : Hid (v = (tgI a && (sgI b))) := hid (by rw [HX.out]; simp)
  have HS : Hid (∀ W zb, Blk W zb 3 (ints [a, b]) → Calls Tryd.prog 64 #[.int .i64 25, .slice (some ⟨zb, 0, none⟩) 2 2] W fun e w' => e = .returned (.agg #[.int .i64 25, .int .i64 a, .int .i64 b, .int .i64 0, .int .i64 0]) ∧ Below W.heap.size W w') := hid fun W zb hB => stepL W 25 [a, b] (by simp) zb hB
  have heq : ∀ W, (Op.equalIn 10000 37 (.agg #[.int .i64 25, .int .i64 a, .int .i64 b, .int .i64 0, .int .i64 0]) (.agg #[.int .i64 25, .int .i64 a, .int .i64 b, .int .i64 0, .int .i64 0])).run Tryd.prog W = .ok true W := fun W => by
    have := eqIN ⟨25, a, b, 0, 0⟩ ⟨25, a, b, 0, 0⟩ W
    rw [(inB_iff _ _).2 rfl] at this
    exact this
  have H0 := hid (fun W => isTagP W a)
  cases s0 : tgI a with
  | false =>
    rw [s0] at H0
    obtain rfl : v = false := by rw [HX.out]; simp [s0]
    clear HX s0 hA hp hz
    go_enter Tryd.func52, Tryd.ntmps52
    go_wp2_with fail
    have Bs : Blk (w.alloc (.cells #[.int .i64 25, .int .i64 a, .int .i64 b, .int .i64 0, .int .i64 0] 37)) w.heap.size 37 #[.int .i64 25, .int .i64 a, .int .i64 b, .int .i64 0, .int .i64 0] := Blk.new _ _ _
    have HB : Hid (Below w.heap.size w (w.alloc (.cells #[.int .i64 25, .int .i64 a, .int .i64 b, .int .i64 0, .int .i64 0] 37))) := hid (by exact blBy)
    generalize w.alloc (.cells #[.int .i64 25, .int .i64 a, .int .i64 b, .int .i64 0, .int .i64 0] 37) = V at *
    refine wp_region_held_drew (S := fun W => ∀ i, W.cell? ⟨w.heap.size, i, none⟩ = #[.int .i64 25, .int .i64 a, .int .i64 b, .int .i64 0, .int .i64 0][i]?) (by kernel_rfl) ?_ (fun hHeld => ?_)
    · exact (Bs.kept (below_drew1 _)).cellF
    refine tkI 0 ?_
    try go_frame
    refine tkI 1 ?_
    try go_frame
    refine tkI 2 ?_
    try go_frame
    refine tkI 3 ?_
    try go_frame
    refine tkI 4 ?_
    try go_frame
    refine tkI 5 ?_
    try go_frame
    refine tkI 6 ?_
    try go_frame
    refine wpAnyH_ready (rs := [7]) (by kernel_rfl) (by simp) ?_
    refine AllReadyH.cons rfl (fun K hK => ?_) AllReadyH.nil
    go_simp
    refine hK.out _ _ ?_ (fun hHeld => ?_)
    · first | exact Bs.cellF | exact (Bs.kept (bl_drew (below_alloc _))).cellF | exact (Bs.kept (below_alloc _)).cellF
    clear hK K
    try go_frame
    refine wpAnyH_ready (rs := [8]) (by kernel_rfl) (by simp) ?_
    refine AllReadyH.cons rfl (fun K hK => ?_) AllReadyH.nil
    go_simp
    go_wp2_with (go_at_call 64; refine (HS.out _ _ ((Blk.new _ _ _).kept (below_drew1 _))).mono ?_; rintro e w1 ⟨rfl, hbx⟩; replace Bs := Bs.kept (below_trans (by first | exact Below.refl _ _ | exact below_drew1 _ | exact below_drewN _ _ | exact bl_drew (below_alloc _)) hbx); replace HB := hid (below_trans HB.out (below_trans (by first | exact Below.refl _ _ | exact below_drew1 _ | exact below_drewN _ _ | exact bl_drew (below_alloc _)) hbx)); clear hbx)
    refine hK.out _ _ ?_ (fun hHeld => ?_)
    · first | exact Bs.cellF | exact (Bs.kept (bl_drew (below_alloc _))).cellF | exact (Bs.kept (below_alloc _)).cellF
    clear hK K
    try go_frame
    refine tkI 9 ?_
    try go_frame
    refine tkI 10 ?_
    try go_frame
    refine tkI 11 ?_
    try go_frame
    refine tkI 12 ?_
    try go_frame
    refine wpAnyH_ready (rs := [13]) (by kernel_rfl) (by simp) ?_
    refine AllReadyH.cons rfl (fun K hK => ?_) AllReadyH.nil
    go_simp
    go_wp2_with (go_at_call 54; refine (H0.out _).mono ?_; rintro e w2 ⟨rfl, rfl⟩)
    refine hK.out _ _ ?_ (fun hHeld => ?_)
    · first | exact Bs.cellF | exact (Bs.kept (bl_drew (below_alloc _))).cellF | exact (Bs.kept (below_alloc _)).cellF
    clear hK K
    try go_frame
    refine tkI 14 ?_
    try go_frame
    refine tkI 15 ?_
    try go_frame
    refine tkU 16 ?_
    try go_frame
    refine tkU 17 ?_
    try go_frame
    refine tkU 18 ?_
    try go_frame
    refine tkI 19 ?_
    try go_frame
    refine tkI 20 ?_
    try go_frame
    refine wpAnyH_done (by kernel_rfl) ?_ _
    try simp only [Act.put, List.getElem_toArray, List.getElem_cons_succ, List.getElem_cons_zero, List.setIfInBounds_toArray, List.set_cons_zero, List.set_cons_succ]
    go_wp2
    go_ret
    exact ⟨rfl, HB.out⟩
  | true =>
  rw [s0] at H0
  replace HX : Hid (v = (sgI b)) := hid (by rw [HX.out]; simp [s0])
  clear s0
  have H1 := hid (fun W => isSingleP W b)
  cases s1 : sgI b with
  | false =>
    rw [s1] at H1
    obtain rfl : v = false := by rw [HX.out]; simp [s1]
    clear HX s1 hA hp hz
    go_enter Tryd.func52, Tryd.ntmps52
    go_wp2_with fail
    have Bs : Blk (w.alloc (.cells #[.int .i64 25, .int .i64 a, .int .i64 b, .int .i64 0, .int .i64 0] 37)) w.heap.size 37 #[.int .i64 25, .int .i64 a, .int .i64 b, .int .i64 0, .int .i64 0] := Blk.new _ _ _
    have HB : Hid (Below w.heap.size w (w.alloc (.cells #[.int .i64 25, .int .i64 a, .int .i64 b, .int .i64 0, .int .i64 0] 37))) := hid (by exact blBy)
    generalize w.alloc (.cells #[.int .i64 25, .int .i64 a, .int .i64 b, .int .i64 0, .int .i64 0] 37) = V at *
    refine wp_region_held_drew (S := fun W => ∀ i, W.cell? ⟨w.heap.size, i, none⟩ = #[.int .i64 25, .int .i64 a, .int .i64 b, .int .i64 0, .int .i64 0][i]?) (by kernel_rfl) ?_ (fun hHeld => ?_)
    · exact (Bs.kept (below_drew1 _)).cellF
    refine tkI 0 ?_
    try go_frame
    refine tkI 1 ?_
    try go_frame
    refine tkI 2 ?_
    try go_frame
    refine tkI 3 ?_
    try go_frame
    refine tkI 4 ?_
    try go_frame
    refine tkI 5 ?_
    try go_frame
    refine tkI 6 ?_
    try go_frame
    refine wpAnyH_ready (rs := [7]) (by kernel_rfl) (by simp) ?_
    refine AllReadyH.cons rfl (fun K hK => ?_) AllReadyH.nil
    go_simp
    refine hK.out _ _ ?_ (fun hHeld => ?_)
    · first | exact Bs.cellF | exact (Bs.kept (bl_drew (below_alloc _))).cellF | exact (Bs.kept (below_alloc _)).cellF
    clear hK K
    try go_frame
    refine wpAnyH_ready (rs := [8]) (by kernel_rfl) (by simp) ?_
    refine AllReadyH.cons rfl (fun K hK => ?_) AllReadyH.nil
    go_simp
    go_wp2_with (go_at_call 64; refine (HS.out _ _ ((Blk.new _ _ _).kept (below_drew1 _))).mono ?_; rintro e w1 ⟨rfl, hbx⟩; replace Bs := Bs.kept (below_trans (by first | exact Below.refl _ _ | exact below_drew1 _ | exact below_drewN _ _ | exact bl_drew (below_alloc _)) hbx); replace HB := hid (below_trans HB.out (below_trans (by first | exact Below.refl _ _ | exact below_drew1 _ | exact below_drewN _ _ | exact bl_drew (below_alloc _)) hbx)); clear hbx)
    refine hK.out _ _ ?_ (fun hHeld => ?_)
    · first | exact Bs.cellF | exact (Bs.kept (bl_drew (below_alloc _))).cellF | exact (Bs.kept (below_alloc _)).cellF
    clear hK K
    try go_frame
    refine tkI 9 ?_
    try go_frame
    refine tkI 10 ?_
    try go_frame
    refine tkI 11 ?_
    try go_frame
    refine tkI 12 ?_
    try go_frame
    refine wpAnyH_ready (rs := [13]) (by kernel_rfl) (by simp) ?_
    refine AllReadyH.cons rfl (fun K hK => ?_) AllReadyH.nil
    go_simp
    go_wp2_with (go_at_call 54; refine (H0.out _).mono ?_; rintro e w2 ⟨rfl, rfl⟩)
    refine hK.out _ _ ?_ (fun hHeld => ?_)
    · first | exact Bs.cellF | exact (Bs.kept (bl_drew (below_alloc _))).cellF | exact (Bs.kept (below_alloc _)).cellF
    clear hK K
    try go_frame
    refine tkI 14 ?_
    try go_frame
    refine tkI 15 ?_
    try go_frame
    refine tkI 16 ?_
    try go_frame
    refine tkI 17 ?_
    try go_frame
    refine wpAnyH_ready (rs := [18]) (by kernel_rfl) (by simp) ?_
    refine AllReadyH.cons rfl (fun K hK => ?_) AllReadyH.nil
    go_simp
    go_wp2_with (go_at_call 65; refine (H1.out _).mono ?_; rintro e w2 ⟨rfl, rfl⟩)
    refine hK.out _ _ ?_ (fun hHeld => ?_)
    · first | exact Bs.cellF | exact (Bs.kept (bl_drew (below_alloc _))).cellF | exact (Bs.kept (below_alloc _)).cellF
    clear hK K
    try go_frame
    refine tkI 19 ?_
    try go_frame
    refine tkI 20 ?_
    try go_frame
    refine wpAnyH_done (by kernel_rfl) ?_ _
    try simp only [Act.put, List.getElem_toArray, List.getElem_cons_succ, List.getElem_cons_zero, List.setIfInBounds_toArray, List.set_cons_zero, List.set_cons_succ]
    go_wp2
    go_ret
    exact ⟨rfl, HB.out⟩
  | true =>
  rw [s1] at H1
  replace HX : Hid (v = (true)) := hid (by rw [HX.out]; simp [s1])
  clear s1
  obtain rfl : v = true := by first | exact HX.out | (rw [HX.out]; simp)
  clear HX hA hp hz
  go_enter Tryd.func52, Tryd.ntmps52
  go_wp2_with fail
  have Bs : Blk (w.alloc (.cells #[.int .i64 25, .int .i64 a, .int .i64 b, .int .i64 0, .int .i64 0] 37)) w.heap.size 37 #[.int .i64 25, .int .i64 a, .int .i64 b, .int .i64 0, .int .i64 0] := Blk.new _ _ _
  have HB : Hid (Below w.heap.size w (w.alloc (.cells #[.int .i64 25, .int .i64 a, .int .i64 b, .int .i64 0, .int .i64 0] 37))) := hid (by exact blBy)
  generalize w.alloc (.cells #[.int .i64 25, .int .i64 a, .int .i64 b, .int .i64 0, .int .i64 0] 37) = V at *
  refine wp_region_held_drew (S := fun W => ∀ i, W.cell? ⟨w.heap.size, i, none⟩ = #[.int .i64 25, .int .i64 a, .int .i64 b, .int .i64 0, .int .i64 0][i]?) (by kernel_rfl) ?_ (fun hHeld => ?_)
  · exact (Bs.kept (below_drew1 _)).cellF
  refine tkI 0 ?_
  try go_frame
  refine tkI 1 ?_
  try go_frame
  refine tkI 2 ?_
  try go_frame
  refine tkI 3 ?_
  try go_frame
  refine tkI 4 ?_
  try go_frame
  refine tkI 5 ?_
  try go_frame
  refine tkI 6 ?_
  try go_frame
  refine wpAnyH_ready (rs := [7]) (by kernel_rfl) (by simp) ?_
  refine AllReadyH.cons rfl (fun K hK => ?_) AllReadyH.nil
  go_simp
  refine hK.out _ _ ?_ (fun hHeld => ?_)
  · first | exact Bs.cellF | exact (Bs.kept (bl_drew (below_alloc _))).cellF | exact (Bs.kept (below_alloc _)).cellF
  clear hK K
  try go_frame
  refine wpAnyH_ready (rs := [8]) (by kernel_rfl) (by simp) ?_
  refine AllReadyH.cons rfl (fun K hK => ?_) AllReadyH.nil
  go_simp
  go_wp2_with (go_at_call 64; refine (HS.out _ _ ((Blk.new _ _ _).kept (below_drew1 _))).mono ?_; rintro e w1 ⟨rfl, hbx⟩; replace Bs := Bs.kept (below_trans (by first | exact Below.refl _ _ | exact below_drew1 _ | exact below_drewN _ _ | exact bl_drew (below_alloc _)) hbx); replace HB := hid (below_trans HB.out (below_trans (by first | exact Below.refl _ _ | exact below_drew1 _ | exact below_drewN _ _ | exact bl_drew (below_alloc _)) hbx)); clear hbx)
  refine hK.out _ _ ?_ (fun hHeld => ?_)
  · first | exact Bs.cellF | exact (Bs.kept (bl_drew (below_alloc _))).cellF | exact (Bs.kept (below_alloc _)).cellF
  clear hK K
  try go_frame
  refine tkI 9 ?_
  try go_frame
  refine tkI 10 ?_
  try go_frame
  refine tkI 11 ?_
  try go_frame
  refine tkI 12 ?_
  try go_frame
  refine wpAnyH_ready (rs := [13]) (by kernel_rfl) (by simp) ?_
  refine AllReadyH.cons rfl (fun K hK => ?_) AllReadyH.nil
  go_simp
  go_wp2_with (go_at_call 54; refine (H0.out _).mono ?_; rintro e w2 ⟨rfl, rfl⟩)
  refine hK.out _ _ ?_ (fun hHeld => ?_)
  · first | exact Bs.cellF | exact (Bs.kept (bl_drew (below_alloc _))).cellF | exact (Bs.kept (below_alloc _)).cellF
  clear hK K
  try go_frame
  refine tkI 14 ?_
  try go_frame
  refine tkI 15 ?_
  try go_frame
  refine tkI 16 ?_
  try go_frame
  refine tkI 17 ?_
  try go_frame
  refine wpAnyH_ready (rs := [18]) (by kernel_rfl) (by simp) ?_
  refine AllReadyH.cons rfl (fun K hK => ?_) AllReadyH.nil
  go_simp
  go_wp2_with (go_at_call 65; refine (H1.out _).mono ?_; rintro e w2 ⟨rfl, rfl⟩)
  refine hK.out _ _ ?_ (fun hHeld => ?_)
  · first | exact Bs.cellF | exact (Bs.kept (bl_drew (below_alloc _))).cellF | exact (Bs.kept (below_alloc _)).cellF
  clear hK K
  try go_frame
  refine tkI 19 ?_
  try go_frame
  refine tkI 20 ?_
  try go_frame
  refine wpAnyH_done (by kernel_rfl) ?_ _
  try simp only [Act.put, List.getElem_toArray, List.getElem_cons_succ, List.getElem_cons_zero, List.setIfInBounds_toArray, List.set_cons_zero, List.set_cons_succ]
  go_wp2
  go_ret
  exact ⟨rfl, HB.out⟩
end Go.Proofs.YtpndejibjiojbaaDoor
