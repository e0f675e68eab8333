/-
  The program's: is a step one that reads, or writes, at its place? (a part)
-/
import Derived.Test.YtpndejibjiojbaaDoorCVP2
import Derived.Maps.RangeWalk
namespace Go.Proofs.YtpndejibjiojbaaDoor
open Go.RowKit
set_option maxRecDepth 1000000
set_option linter.unusedVariables false
set_option linter.unusedSimpArgs false
set_option maxHeartbeats 4000000
theorem wr_5 (w : World) (bs : List BV) (ba : Option Addr) (bc : Nat) (hp : PgR w (.slice ba bs.length bc) bs) (hz : ∀ x ∈ bs, x.k.dec.length ≤ 140737488355328 ∧ x.k.enc.length ≤ 140737488355328) (caps : Array Value) (ah : Int → Bool) (hA : ∀ tg W, Below w.heap.size w W → Calls Tryd.prog 49 (#[.int .i64 tg] ++ caps) W (BoA W (ah tg))) (a b c d : Int) : Calls Tryd.prog 50 #[.slice ba bs.length bc, .agg #[.int .i64 5, .int .i64 a, .int .i64 b, .int .i64 c, .int .i64 d], .func (.func 49) #[] caps] w (BoA w (decide (d = 0) && (decide (c = 0) && (decide (b = 0) && (sgI a))))) := by
  have hgd := gdIN
  obtain ⟨v, HX⟩ : ∃ v, Hid (v = (decide (d = 0) && (decide (c = 0) && (decide (b = 0) && (sgI a))))) := ⟨_, hid rfl⟩
  rw [← HX.out]
  by_cases zd : d = 0
  case neg =>
    obtain rfl : v = false := by rw [HX.out]; simp [zd]
    have HS : Hid (∀ W zb, Blk W zb 3 (ints [a]) → Calls Tryd.prog 64 #[.int .i64 5, .slice (some ⟨zb, 0, none⟩) 1 1] W fun e w' => e = .returned (.agg #[.int .i64 5, .int .i64 a, .int .i64 0, .int .i64 0, .int .i64 0]) ∧ Below W.heap.size W w') := hid fun W zb hB => stepL W 5 [a] (by simp) zb hB
    have heq : ∀ W, (Op.equalIn 10000 37 (.agg #[.int .i64 5, .int .i64 a, .int .i64 b, .int .i64 c, .int .i64 d]) (.agg #[.int .i64 5, .int .i64 a, .int .i64 0, .int .i64 0, .int .i64 0])).run Tryd.prog W = .ok false W := fun W => by
      have := eqIN ⟨5, a, b, c, d⟩ ⟨5, a, 0, 0, 0⟩ W
      rw [show inB ⟨5, a, b, c, d⟩ ⟨5, a, 0, 0, 0⟩ = false by simp [inB, zd]] at this
      exact this
    clear HX zd hA hp hz
    go_enter Tryd.func50, Tryd.ntmps50
    go_wp2_with fail
    have Bs : Blk (w.alloc (.cells #[.int .i64 5, .int .i64 a, .int .i64 b, .int .i64 c, .int .i64 d] 37)) w.heap.size 37 #[.int .i64 5, .int .i64 a, .int .i64 b, .int .i64 c, .int .i64 d] := Blk.new _ _ _
    have HB : Hid (Below w.heap.size w (w.alloc (.cells #[.int .i64 5, .int .i64 a, .int .i64 b, .int .i64 c, .int .i64 d] 37))) := hid (by exact blBy)
    generalize w.alloc (.cells #[.int .i64 5, .int .i64 a, .int .i64 b, .int .i64 c, .int .i64 d] 37) = V at *
    refine wp_region_held_drew (S := fun W => ∀ i, W.cell? ⟨w.heap.size, i, none⟩ = #[.int .i64 5, .int .i64 a, .int .i64 b, .int .i64 c, .int .i64 d][i]?) (by kernel_rfl) ?_ (fun hHeld => ?_)
    · exact (Bs.kept (below_drew1 _)).cellF
    refine tkI 0 ?_
    try go_frame
    refine tkI 1 ?_
    try go_frame
    refine tkI 2 ?_
    try go_frame
    refine tkI 3 ?_
    try go_frame
    refine tkI 4 ?_
    try go_frame
    refine wpAnyH_ready (rs := [5]) (by kernel_rfl) (by simp) ?_
    refine AllReadyH.cons rfl (fun K hK => ?_) AllReadyH.nil
    go_simp
    refine hK.out _ _ ?_ (fun hHeld => ?_)
    · first | exact Bs.cellF | exact (Bs.kept (bl_drew (below_alloc _))).cellF | exact (Bs.kept (below_alloc _)).cellF
    clear hK K
    try go_frame
    refine wpAnyH_ready (rs := [6]) (by kernel_rfl) (by simp) ?_
    refine AllReadyH.cons rfl (fun K hK => ?_) AllReadyH.nil
    go_simp
    go_wp2_with (go_at_call 64; refine (HS.out _ _ ((Blk.new _ _ _).kept (below_drew1 _))).mono ?_; rintro e w1 ⟨rfl, hbx⟩; replace Bs := Bs.kept (below_trans (by first | exact Below.refl _ _ | exact below_drew1 _ | exact below_drewN _ _ | exact bl_drew (below_alloc _)) hbx); replace HB := hid (below_trans HB.out (below_trans (by first | exact Below.refl _ _ | exact below_drew1 _ | exact below_drewN _ _ | exact bl_drew (below_alloc _)) hbx)); clear hbx)
    refine hK.out _ _ ?_ (fun hHeld => ?_)
    · first | exact Bs.cellF | exact (Bs.kept (bl_drew (below_alloc _))).cellF | exact (Bs.kept (below_alloc _)).cellF
    clear hK K
    try go_frame
    refine tkI 7 ?_
    try go_frame
    refine tkI 8 ?_
    try go_frame
    refine tkU 9 ?_
    try go_frame
    refine tkU 10 ?_
    try go_frame
    refine tkU 11 ?_
    try go_frame
    refine tkI 12 ?_
    try go_frame
    refine tkI 13 ?_
    try go_frame
    refine wpAnyH_done (by kernel_rfl) ?_ _
    try simp only [Act.put, List.getElem_toArray, List.getElem_cons_succ, List.getElem_cons_zero, List.setIfInBounds_toArray, List.set_cons_zero, List.set_cons_succ]
    go_wp2
    go_ret
    exact ⟨rfl, HB.out⟩
  subst zd
  by_cases zc : c = 0
  case neg =>
    obtain rfl : v = false := by rw [HX.out]; simp [zc]
    have HS : Hid (∀ W zb, Blk W zb 3 (ints [a]) → Calls Tryd.prog 64 #[.int .i64 5, .slice (some ⟨zb, 0, none⟩) 1 1] W fun e w' => e = .returned (.agg #[.int .i64 5, .int .i64 a, .int .i64 0, .int .i64 0, .int .i64 0]) ∧ Below W.heap.size W w') := hid fun W zb hB => stepL W 5 [a] (by simp) zb hB
    have heq : ∀ W, (Op.equalIn 10000 37 (.agg #[.int .i64 5, .int .i64 a, .int .i64 b, .int .i64 c, .int .i64 0]) (.agg #[.int .i64 5, .int .i64 a, .int .i64 0, .int .i64 0, .int .i64 0])).run Tryd.prog W = .ok false W := fun W => by
      have := eqIN ⟨5, a, b, c, 0⟩ ⟨5, a, 0, 0, 0⟩ W
      rw [show inB ⟨5, a, b, c, 0⟩ ⟨5, a, 0, 0, 0⟩ = false by simp [inB, zc]] at this
      exact this
    clear HX zc hA hp hz
    go_enter Tryd.func50, Tryd.ntmps50
    go_wp2_with fail
    have Bs : Blk (w.alloc (.cells #[.int .i64 5, .int .i64 a, .int .i64 b, .int .i64 c, .int .i64 0] 37)) w.heap.size 37 #[.int .i64 5, .int .i64 a, .int .i64 b, .int .i64 c, .int .i64 0] := Blk.new _ _ _
    have HB : Hid (Below w.heap.size w (w.alloc (.cells #[.int .i64 5, .int .i64 a, .int .i64 b, .int .i64 c, .int .i64 0] 37))) := hid (by exact blBy)
    generalize w.alloc (.cells #[.int .i64 5, .int .i64 a, .int .i64 b, .int .i64 c, .int .i64 0] 37) = V at *
    refine wp_region_held_drew (S := fun W => ∀ i, W.cell? ⟨w.heap.size, i, none⟩ = #[.int .i64 5, .int .i64 a, .int .i64 b, .int .i64 c, .int .i64 0][i]?) (by kernel_rfl) ?_ (fun hHeld => ?_)
    · exact (Bs.kept (below_drew1 _)).cellF
    refine tkI 0 ?_
    try go_frame
    refine tkI 1 ?_
    try go_frame
    refine tkI 2 ?_
    try go_frame
    refine tkI 3 ?_
    try go_frame
    refine tkI 4 ?_
    try go_frame
    refine wpAnyH_ready (rs := [5]) (by kernel_rfl) (by simp) ?_
    refine AllReadyH.cons rfl (fun K hK => ?_) AllReadyH.nil
    go_simp
    refine hK.out _ _ ?_ (fun hHeld => ?_)
    · first | exact Bs.cellF | exact (Bs.kept (bl_drew (below_alloc _))).cellF | exact (Bs.kept (below_alloc _)).cellF
    clear hK K
    try go_frame
    refine wpAnyH_ready (rs := [6]) (by kernel_rfl) (by simp) ?_
    refine AllReadyH.cons rfl (fun K hK => ?_) AllReadyH.nil
    go_simp
    go_wp2_with (go_at_call 64; refine (HS.out _ _ ((Blk.new _ _ _).kept (below_drew1 _))).mono ?_; rintro e w1 ⟨rfl, hbx⟩; replace Bs := Bs.kept (below_trans (by first | exact Below.refl _ _ | exact below_drew1 _ | exact below_drewN _ _ | exact bl_drew (below_alloc _)) hbx); replace HB := hid (below_trans HB.out (below_trans (by first | exact Below.refl _ _ | exact below_drew1 _ | exact below_drewN _ _ | exact bl_drew (below_alloc _)) hbx)); clear hbx)
    refine hK.out _ _ ?_ (fun hHeld => ?_)
    · first | exact Bs.cellF | exact (Bs.kept (bl_drew (below_alloc _))).cellF | exact (Bs.kept (below_alloc _)).cellF
    clear hK K
    try go_frame
    refine tkI 7 ?_
    try go_frame
    refine tkI 8 ?_
    try go_frame
    refine tkU 9 ?_
    try go_frame
    refine tkU 10 ?_
    try go_frame
    refine tkU 11 ?_
    try go_frame
    refine tkI 12 ?_
    try go_frame
    refine tkI 13 ?_
    try go_frame
    refine wpAnyH_done (by kernel_rfl) ?_ _
    try simp only [Act.put, List.getElem_toArray, List.getElem_cons_succ, List.getElem_cons_zero, List.setIfInBounds_toArray, List.set_cons_zero, List.set_cons_succ]
    go_wp2
    go_ret
    exact ⟨rfl, HB.out⟩
  subst zc
  by_cases zb : b = 0
  case neg =>
    obtain rfl : v = false := by rw [HX.out]; simp [zb]
    have HS : Hid (∀ W zb, Blk W zb 3 (ints [a]) → Calls Tryd.prog 64 #[.int .i64 5, .slice (some ⟨zb, 0, none⟩) 1 1] W fun e w' => e = .returned (.agg #[.int .i64 5, .int .i64 a, .int .i64 0, .int .i64 0, .int .i64 0]) ∧ Below W.heap.size W w') := hid fun W zb hB => stepL W 5 [a] (by simp) zb hB
    have heq : ∀ W, (Op.equalIn 10000 37 (.agg #[.int .i64 5, .int .i64 a, .int .i64 b, .int .i64 0, .int .i64 0]) (.agg #[.int .i64 5, .int .i64 a, .int .i64 0, .int .i64 0, .int .i64 0])).run Tryd.prog W = .ok false W := fun W => by
      have := eqIN ⟨5, a, b, 0, 0⟩ ⟨5, a, 0, 0, 0⟩ W
      rw [show inB ⟨5, a, b, 0, 0⟩ ⟨5, a, 0, 0, 0⟩ = false by simp [inB, zb]] at this
      exact this
    clear HX zb hA hp hz
    go_enter Tryd.func50, Tryd.ntmps50
    go_wp2_with fail
    have Bs : Blk (w.alloc (.cells #[.int .i64 5, .int .i64 a, .int .i64 b, .int .i64 0, .int .i64 0] 37)) w.heap.size 37 #[.int .i64 5, .int .i64 a, .int .i64 b, .int .i64 0, .int .i64 0] := Blk.new _ _ _
    have HB : Hid (Below w.heap.size w (w.alloc (.cells #[.int .i64 5, .int .i64 a, .int .i64 b, .int .i64 0, .int .i64 0] 37))) := hid (by exact blBy)
    generalize w.alloc (.cells #[.int .i64 5, .int .i64 a, .int .i64 b, .int .i64 0, .int .i64 0] 37) = V at *
    refine wp_region_held_drew (S := fun W => ∀ i, W.cell? ⟨w.heap.size, i, none⟩ = #[.int .i64 5, .int .i64 a, .int .i64 b, .int .i64 0, .int .i64 0][i]?) (by kernel_rfl) ?_ (fun hHeld => ?_)
    · exact (Bs.kept (below_drew1 _)).cellF
    refine tkI 0 ?_
    try go_frame
    refine tkI 1 ?_
    try go_frame
    refine tkI 2 ?_
    try go_frame
    refine tkI 3 ?_
    try go_frame
    refine tkI 4 ?_
    try go_frame
    refine wpAnyH_ready (rs := [5]) (by kernel_rfl) (by simp) ?_
    refine AllReadyH.cons rfl (fun K hK => ?_) AllReadyH.nil
    go_simp
    refine hK.out _ _ ?_ (fun hHeld => ?_)
    · first | exact Bs.cellF | exact (Bs.kept (bl_drew (below_alloc _))).cellF | exact (Bs.kept (below_alloc _)).cellF
    clear hK K
    try go_frame
    refine wpAnyH_ready (rs := [6]) (by kernel_rfl) (by simp) ?_
    refine AllReadyH.cons rfl (fun K hK => ?_) AllReadyH.nil
    go_simp
    go_wp2_with (go_at_call 64; refine (HS.out _ _ ((Blk.new _ _ _).kept (below_drew1 _))).mono ?_; rintro e w1 ⟨rfl, hbx⟩; replace Bs := Bs.kept (below_trans (by first | exact Below.refl _ _ | exact below_drew1 _ | exact below_drewN _ _ | exact bl_drew (below_alloc _)) hbx); replace HB := hid (below_trans HB.out (below_trans (by first | exact Below.refl _ _ | exact below_drew1 _ | exact below_drewN _ _ | exact bl_drew (below_alloc _)) hbx)); clear hbx)
    refine hK.out _ _ ?_ (fun hHeld => ?_)
    · first | exact Bs.cellF | exact (Bs.kept (bl_drew (below_alloc _))).cellF | exact (Bs.kept (below_alloc _)).cellF
    clear hK K
    try go_frame
    refine tkI 7 ?_
    try go_frame
    refine tkI 8 ?_
    try go_frame
    refine tkU 9 ?_
    try go_frame
    refine tkU 10 ?_
    try go_frame
    refine tkU 11 ?_
    try go_frame
    refine tkI 12 ?_
    try go_frame
    refine tkI 13 ?_
    try go_frame
    refine wpAnyH_done (by kernel_rfl) ?_ _
    try simp only [Act.put, List.getElem_toArray, List.getElem_cons_succ, List.getElem_cons_zero, List.setIfInBounds_toArray, List.set_cons_zero, List.set_cons_succ]
    go_wp2
    go_ret
    exact ⟨rfl, HB.out⟩
  subst zb
  replace HX : Hid (v = (sgI a)) := hid (by rw [HX.out]; simp)
  have HS : Hid (∀ W zb, Blk W zb 3 (ints [a]) → Calls Tryd.prog 64 #[.int .i64 5, .slice (some ⟨zb, 0, none⟩) 1 1] W fun e w' => e = .returned (.agg #[.int .i64 5, .int .i64 a, .int .i64 0, .int .i64 0, .int .i64 0]) ∧ Below W.heap.size W w') := hid fun W zb hB => stepL W 5 [a] (by simp) zb hB
  have heq : ∀ W, (Op.equalIn 10000 37 (.agg #[.int .i64 5, .int .i64 a, .int .i64 0, .int .i64 0, .int .i64 0]) (.agg #[.int .i64 5, .int .i64 a, .int .i64 0, .int .i64 0, .int .i64 0])).run Tryd.prog W = .ok true W := fun W => by
    have := eqIN ⟨5, a, 0, 0, 0⟩ ⟨5, a, 0, 0, 0⟩ W
    rw [(inB_iff _ _).2 rfl] at this
    exact this
  have H0 := hid (fun W => isSingleP W a)
  cases s0 : sgI a with
  | false =>
    rw [s0] at H0
    obtain rfl : v = false := by rw [HX.out]; simp [s0]
    clear HX s0 hA hp hz
    go_enter Tryd.func50, Tryd.ntmps50
    go_wp2_with fail
    have Bs : Blk (w.alloc (.cells #[.int .i64 5, .int .i64 a, .int .i64 0, .int .i64 0, .int .i64 0] 37)) w.heap.size 37 #[.int .i64 5, .int .i64 a, .int .i64 0, .int .i64 0, .int .i64 0] := Blk.new _ _ _
    have HB : Hid (Below w.heap.size w (w.alloc (.cells #[.int .i64 5, .int .i64 a, .int .i64 0, .int .i64 0, .int .i64 0] 37))) := hid (by exact blBy)
    generalize w.alloc (.cells #[.int .i64 5, .int .i64 a, .int .i64 0, .int .i64 0, .int .i64 0] 37) = V at *
    refine wp_region_held_drew (S := fun W => ∀ i, W.cell? ⟨w.heap.size, i, none⟩ = #[.int .i64 5, .int .i64 a, .int .i64 0, .int .i64 0, .int .i64 0][i]?) (by kernel_rfl) ?_ (fun hHeld => ?_)
    · exact (Bs.kept (below_drew1 _)).cellF
    refine tkI 0 ?_
    try go_frame
    refine tkI 1 ?_
    try go_frame
    refine tkI 2 ?_
    try go_frame
    refine tkI 3 ?_
    try go_frame
    refine tkI 4 ?_
    try go_frame
    refine wpAnyH_ready (rs := [5]) (by kernel_rfl) (by simp) ?_
    refine AllReadyH.cons rfl (fun K hK => ?_) AllReadyH.nil
    go_simp
    refine hK.out _ _ ?_ (fun hHeld => ?_)
    · first | exact Bs.cellF | exact (Bs.kept (bl_drew (below_alloc _))).cellF | exact (Bs.kept (below_alloc _)).cellF
    clear hK K
    try go_frame
    refine wpAnyH_ready (rs := [6]) (by kernel_rfl) (by simp) ?_
    refine AllReadyH.cons rfl (fun K hK => ?_) AllReadyH.nil
    go_simp
    go_wp2_with (go_at_call 64; refine (HS.out _ _ ((Blk.new _ _ _).kept (below_drew1 _))).mono ?_; rintro e w1 ⟨rfl, hbx⟩; replace Bs := Bs.kept (below_trans (by first | exact Below.refl _ _ | exact below_drew1 _ | exact below_drewN _ _ | exact bl_drew (below_alloc _)) hbx); replace HB := hid (below_trans HB.out (below_trans (by first | exact Below.refl _ _ | exact below_drew1 _ | exact below_drewN _ _ | exact bl_drew (below_alloc _)) hbx)); clear hbx)
    refine hK.out _ _ ?_ (fun hHeld => ?_)
    · first | exact Bs.cellF | exact (Bs.kept (bl_drew (below_alloc _))).cellF | exact (Bs.kept (below_alloc _)).cellF
    clear hK K
    try go_frame
    refine tkI 7 ?_
    try go_frame
    refine tkI 8 ?_
    try go_frame
    refine tkI 9 ?_
    try go_frame
    refine tkI 10 ?_
    try go_frame
    refine wpAnyH_ready (rs := [11]) (by kernel_rfl) (by simp) ?_
    refine AllReadyH.cons rfl (fun K hK => ?_) AllReadyH.nil
    go_simp
    go_wp2_with (go_at_call 65; refine (H0.out _).mono ?_; rintro e w2 ⟨rfl, rfl⟩)
    refine hK.out _ _ ?_ (fun hHeld => ?_)
    · first | exact Bs.cellF | exact (Bs.kept (bl_drew (below_alloc _))).cellF | exact (Bs.kept (below_alloc _)).cellF
    clear hK K
    try go_frame
    refine tkI 12 ?_
    try go_frame
    refine tkI 13 ?_
    try go_frame
    refine wpAnyH_done (by kernel_rfl) ?_ _
    try simp only [Act.put, List.getElem_toArray, List.getElem_cons_succ, List.getElem_cons_zero, List.setIfInBounds_toArray, List.set_cons_zero, List.set_cons_succ]
    go_wp2
    go_ret
    exact ⟨rfl, HB.out⟩
  | true =>
  rw [s0] at H0
  replace HX : Hid (v = (true)) := hid (by rw [HX.out]; simp [s0])
  clear s0
  obtain rfl : v = true := by first | exact HX.out | (rw [HX.out]; simp)
  clear HX hA hp hz
  go_enter Tryd.func50, Tryd.ntmps50
  go_wp2_with fail
  have Bs : Blk (w.alloc (.cells #[.int .i64 5, .int .i64 a, .int .i64 0, .int .i64 0, .int .i64 0] 37)) w.heap.size 37 #[.int .i64 5, .int .i64 a, .int .i64 0, .int .i64 0, .int .i64 0] := Blk.new _ _ _
  have HB : Hid (Below w.heap.size w (w.alloc (.cells #[.int .i64 5, .int .i64 a, .int .i64 0, .int .i64 0, .int .i64 0] 37))) := hid (by exact blBy)
  generalize w.alloc (.cells #[.int .i64 5, .int .i64 a, .int .i64 0, .int .i64 0, .int .i64 0] 37) = V at *
  refine wp_region_held_drew (S := fun W => ∀ i, W.cell? ⟨w.heap.size, i, none⟩ = #[.int .i64 5, .int .i64 a, .int .i64 0, .int .i64 0, .int .i64 0][i]?) (by kernel_rfl) ?_ (fun hHeld => ?_)
  · exact (Bs.kept (below_drew1 _)).cellF
  refine tkI 0 ?_
  try go_frame
  refine tkI 1 ?_
  try go_frame
  refine tkI 2 ?_
  try go_frame
  refine tkI 3 ?_
  try go_frame
  refine tkI 4 ?_
  try go_frame
  refine wpAnyH_ready (rs := [5]) (by kernel_rfl) (by simp) ?_
  refine AllReadyH.cons rfl (fun K hK => ?_) AllReadyH.nil
  go_simp
  refine hK.out _ _ ?_ (fun hHeld => ?_)
  · first | exact Bs.cellF | exact (Bs.kept (bl_drew (below_alloc _))).cellF | exact (Bs.kept (below_alloc _)).cellF
  clear hK K
  try go_frame
  refine wpAnyH_ready (rs := [6]) (by kernel_rfl) (by simp) ?_
  refine AllReadyH.cons rfl (fun K hK => ?_) AllReadyH.nil
  go_simp
  go_wp2_with (go_at_call 64; refine (HS.out _ _ ((Blk.new _ _ _).kept (below_drew1 _))).mono ?_; rintro e w1 ⟨rfl, hbx⟩; replace Bs := Bs.kept (below_trans (by first | exact Below.refl _ _ | exact below_drew1 _ | exact below_drewN _ _ | exact bl_drew (below_alloc _)) hbx); replace HB := hid (below_trans HB.out (below_trans (by first | exact Below.refl _ _ | exact below_drew1 _ | exact below_drewN _ _ | exact bl_drew (below_alloc _)) hbx)); clear hbx)
  refine hK.out _ _ ?_ (fun hHeld => ?_)
  · first | exact Bs.cellF | exact (Bs.kept (bl_drew (below_alloc _))).cellF | exact (Bs.kept (below_alloc _)).cellF
  clear hK K
  try go_frame
  refine tkI 7 ?_
  try go_frame
  refine tkI 8 ?_
  try go_frame
  refine tkI 9 ?_
  try go_frame
  refine tkI 10 ?_
  try go_frame
  refine wpAnyH_ready (rs := [11]) (by kernel_rfl) (by simp) ?_
  refine AllReadyH.cons rfl (fun K hK => ?_) AllReadyH.nil
  go_simp
  go_wp2_with (go_at_call 65; refine (H0.out _).mono ?_; rintro e w2 ⟨rfl, rfl⟩)
  refine hK.out _ _ ?_ (fun hHeld => ?_)
  · first | exact Bs.cellF | exact (Bs.kept (bl_drew (below_alloc _))).cellF | exact (Bs.kept (below_alloc _)).cellF
  clear hK K
  try go_frame
  refine tkI 12 ?_
  try go_frame
  refine tkI 13 ?_
  try go_frame
  refine wpAnyH_done (by kernel_rfl) ?_ _
  try simp only [Act.put, List.getElem_toArray, List.getElem_cons_succ, List.getElem_cons_zero, List.setIfInBounds_toArray, List.set_cons_zero, List.set_cons_succ]
  go_wp2
  go_ret
  exact ⟨rfl, HB.out⟩
theorem wr_6 (w : World) (bs : List BV) (ba : Option Addr) (bc : Nat) (hp : PgR w (.slice ba bs.length bc) bs) (hz : ∀ x ∈ bs, x.k.dec.length ≤ 140737488355328 ∧ x.k.enc.length ≤ 140737488355328) (caps : Array Value) (ah : Int → Bool) (hA : ∀ tg W, Below w.heap.size w W → Calls Tryd.prog 49 (#[.int .i64 tg] ++ caps) W (BoA W (ah tg))) (a b c d : Int) : Calls Tryd.prog 50 #[.slice ba bs.length bc, .agg #[.int .i64 6, .int .i64 a, .int .i64 b, .int .i64 c, .int .i64 d], .func (.func 49) #[] caps] w (BoA w (decide (d = 0) && (decide (c = 0) && (decide (b = 0) && (enI bs a))))) := by
  have hgd := gdIN
  obtain ⟨v, HX⟩ : ∃ v, Hid (v = (decide (d = 0) && (decide (c = 0) && (decide (b = 0) && (enI bs a))))) := ⟨_, hid rfl⟩
  rw [← HX.out]
  by_cases zd : d = 0
  case neg =>
    obtain rfl : v = false := by rw [HX.out]; simp [zd]
    have HS : Hid (∀ W zb, Blk W zb 3 (ints [a]) → Calls Tryd.prog 64 #[.int .i64 6, .slice (some ⟨zb, 0, none⟩) 1 1] W fun e w' => e = .returned (.agg #[.int .i64 6, .int .i64 a, .int .i64 0, .int .i64 0, .int .i64 0]) ∧ Below W.heap.size W w') := hid fun W zb hB => stepL W 6 [a] (by simp) zb hB
    have heq : ∀ W, (Op.equalIn 10000 37 (.agg #[.int .i64 6, .int .i64 a, .int .i64 b, .int .i64 c, .int .i64 d]) (.agg #[.int .i64 6, .int .i64 a, .int .i64 0, .int .i64 0, .int .i64 0])).run Tryd.prog W = .ok false W := fun W => by
      have := eqIN ⟨6, a, b, c, d⟩ ⟨6, a, 0, 0, 0⟩ W
      rw [show inB ⟨6, a, b, c, d⟩ ⟨6, a, 0, 0, 0⟩ = false by simp [inB, zd]] at this
      exact this
    clear HX zd hA hp hz
    go_enter Tryd.func50, Tryd.ntmps50
    go_wp2_with fail
    have Bs : Blk (w.alloc (.cells #[.int .i64 6, .int .i64 a, .int .i64 b, .int .i64 c, .int .i64 d] 37)) w.heap.size 37 #[.int .i64 6, .int .i64 a, .int .i64 b, .int .i64 c, .int .i64 d] := Blk.new _ _ _
    have HB : Hid (Below w.heap.size w (w.alloc (.cells #[.int .i64 6, .int .i64 a, .int .i64 b, .int .i64 c, .int .i64 d] 37))) := hid (by exact blBy)
    generalize w.alloc (.cells #[.int .i64 6, .int .i64 a, .int .i64 b, .int .i64 c, .int .i64 d] 37) = V at *
    refine wp_region_held_drew (S := fun W => ∀ i, W.cell? ⟨w.heap.size, i, none⟩ = #[.int .i64 6, .int .i64 a, .int .i64 b, .int .i64 c, .int .i64 d][i]?) (by kernel_rfl) ?_ (fun hHeld => ?_)
    · exact (Bs.kept (below_drew1 _)).cellF
    refine tkI 0 ?_
    try go_frame
    refine tkI 1 ?_
    try go_frame
    refine tkI 2 ?_
    try go_frame
    refine tkI 3 ?_
    try go_frame
    refine tkI 4 ?_
    try go_frame
    refine wpAnyH_ready (rs := [5]) (by kernel_rfl) (by simp) ?_
    refine AllReadyH.cons rfl (fun K hK => ?_) AllReadyH.nil
    go_simp
    refine hK.out _ _ ?_ (fun hHeld => ?_)
    · first | exact Bs.cellF | exact (Bs.kept (bl_drew (below_alloc _))).cellF | exact (Bs.kept (below_alloc _)).cellF
    clear hK K
    try go_frame
    refine wpAnyH_ready (rs := [6]) (by kernel_rfl) (by simp) ?_
    refine AllReadyH.cons rfl (fun K hK => ?_) AllReadyH.nil
    go_simp
    go_wp2_with (go_at_call 64; refine (HS.out _ _ ((Blk.new _ _ _).kept (below_drew1 _))).mono ?_; rintro e w1 ⟨rfl, hbx⟩; replace Bs := Bs.kept (below_trans (by first | exact Below.refl _ _ | exact below_drew1 _ | exact below_drewN _ _ | exact bl_drew (below_alloc _)) hbx); replace HB := hid (below_trans HB.out (below_trans (by first | exact Below.refl _ _ | exact below_drew1 _ | exact below_drewN _ _ | exact bl_drew (below_alloc _)) hbx)); clear hbx)
    refine hK.out _ _ ?_ (fun hHeld => ?_)
    · first | exact Bs.cellF | exact (Bs.kept (bl_drew (below_alloc _))).cellF | exact (Bs.kept (below_alloc _)).cellF
    clear hK K
    try go_frame
    refine tkI 7 ?_
    try go_frame
    refine tkI 8 ?_
    try go_frame
    refine tkU 9 ?_
    try go_frame
    refine tkU 10 ?_
    try go_frame
    refine tkU 11 ?_
    try go_frame
    refine tkU 12 ?_
    try go_frame
    refine tkI 13 ?_
    try go_frame
    refine tkI 14 ?_
    try go_frame
    refine wpAnyH_done (by kernel_rfl) ?_ _
    try simp only [Act.put, List.getElem_toArray, List.getElem_cons_succ, List.getElem_cons_zero, List.setIfInBounds_toArray, List.set_cons_zero, List.set_cons_succ]
    go_wp2
    go_ret
    exact ⟨rfl, HB.out⟩
  subst zd
  by_cases zc : c = 0
  case neg =>
    obtain rfl : v = false := by rw [HX.out]; simp [zc]
    have HS : Hid (∀ W zb, Blk W zb 3 (ints [a]) → Calls Tryd.prog 64 #[.int .i64 6, .slice (some ⟨zb, 0, none⟩) 1 1] W fun e w' => e = .returned (.agg #[.int .i64 6, .int .i64 a, .int .i64 0, .int .i64 0, .int .i64 0]) ∧ Below W.heap.size W w') := hid fun W zb hB => stepL W 6 [a] (by simp) zb hB
    have heq : ∀ W, (Op.equalIn 10000 37 (.agg #[.int .i64 6, .int .i64 a, .int .i64 b, .int .i64 c, .int .i64 0]) (.agg #[.int .i64 6, .int .i64 a, .int .i64 0, .int .i64 0, .int .i64 0])).run Tryd.prog W = .ok false W := fun W => by
      have := eqIN ⟨6, a, b, c, 0⟩ ⟨6, a, 0, 0, 0⟩ W
      rw [show inB ⟨6, a, b, c, 0⟩ ⟨6, a, 0, 0, 0⟩ = false by simp [inB, zc]] at this
      exact this
    clear HX zc hA hp hz
    go_enter Tryd.func50, Tryd.ntmps50
    go_wp2_with fail
    have Bs : Blk (w.alloc (.cells #[.int .i64 6, .int .i64 a, .int .i64 b, .int .i64 c, .int .i64 0] 37)) w.heap.size 37 #[.int .i64 6, .int .i64 a, .int .i64 b, .int .i64 c, .int .i64 0] := Blk.new _ _ _
    have HB : Hid (Below w.heap.size w (w.alloc (.cells #[.int .i64 6, .int .i64 a, .int .i64 b, .int .i64 c, .int .i64 0] 37))) := hid (by exact blBy)
    generalize w.alloc (.cells #[.int .i64 6, .int .i64 a, .int .i64 b, .int .i64 c, .int .i64 0] 37) = V at *
    refine wp_region_held_drew (S := fun W => ∀ i, W.cell? ⟨w.heap.size, i, none⟩ = #[.int .i64 6, .int .i64 a, .int .i64 b, .int .i64 c, .int .i64 0][i]?) (by kernel_rfl) ?_ (fun hHeld => ?_)
    · exact (Bs.kept (below_drew1 _)).cellF
    refine tkI 0 ?_
    try go_frame
    refine tkI 1 ?_
    try go_frame
    refine tkI 2 ?_
    try go_frame
    refine tkI 3 ?_
    try go_frame
    refine tkI 4 ?_
    try go_frame
    refine wpAnyH_ready (rs := [5]) (by kernel_rfl) (by simp) ?_
    refine AllReadyH.cons rfl (fun K hK => ?_) AllReadyH.nil
    go_simp
    refine hK.out _ _ ?_ (fun hHeld => ?_)
    · first | exact Bs.cellF | exact (Bs.kept (bl_drew (below_alloc _))).cellF | exact (Bs.kept (below_alloc _)).cellF
    clear hK K
    try go_frame
    refine wpAnyH_ready (rs := [6]) (by kernel_rfl) (by simp) ?_
    refine AllReadyH.cons rfl (fun K hK => ?_) AllReadyH.nil
    go_simp
    go_wp2_with (go_at_call 64; refine (HS.out _ _ ((Blk.new _ _ _).kept (below_drew1 _))).mono ?_; rintro e w1 ⟨rfl, hbx⟩; replace Bs := Bs.kept (below_trans (by first | exact Below.refl _ _ | exact below_drew1 _ | exact below_drewN _ _ | exact bl_drew (below_alloc _)) hbx); replace HB := hid (below_trans HB.out (below_trans (by first | exact Below.refl _ _ | exact below_drew1 _ | exact below_drewN _ _ | exact bl_drew (below_alloc _)) hbx)); clear hbx)
    refine hK.out _ _ ?_ (fun hHeld => ?_)
    · first | exact Bs.cellF | exact (Bs.kept (bl_drew (below_alloc _))).cellF | exact (Bs.kept (below_alloc _)).cellF
    clear hK K
    try go_frame
    refine tkI 7 ?_
    try go_frame
    refine tkI 8 ?_
    try go_frame
    refine tkU 9 ?_
    try go_frame
    refine tkU 10 ?_
    try go_frame
    refine tkU 11 ?_
    try go_frame
    refine tkU 12 ?_
    try go_frame
    refine tkI 13 ?_
    try go_frame
    refine tkI 14 ?_
    try go_frame
    refine wpAnyH_done (by kernel_rfl) ?_ _
    try simp only [Act.put, List.getElem_toArray, List.getElem_cons_succ, List.getElem_cons_zero, List.setIfInBounds_toArray, List.set_cons_zero, List.set_cons_succ]
    go_wp2
    go_ret
    exact ⟨rfl, HB.out⟩
  subst zc
  by_cases zb : b = 0
  case neg =>
    obtain rfl : v = false := by rw [HX.out]; simp [zb]
    have HS : Hid (∀ W zb, Blk W zb 3 (ints [a]) → Calls Tryd.prog 64 #[.int .i64 6, .slice (some ⟨zb, 0, none⟩) 1 1] W fun e w' => e = .returned (.agg #[.int .i64 6, .int .i64 a, .int .i64 0, .int .i64 0, .int .i64 0]) ∧ Below W.heap.size W w') := hid fun W zb hB => stepL W 6 [a] (by simp) zb hB
    have heq : ∀ W, (Op.equalIn 10000 37 (.agg #[.int .i64 6, .int .i64 a, .int .i64 b, .int .i64 0, .int .i64 0]) (.agg #[.int .i64 6, .int .i64 a, .int .i64 0, .int .i64 0, .int .i64 0])).run Tryd.prog W = .ok false W := fun W => by
      have := eqIN ⟨6, a, b, 0, 0⟩ ⟨6, a, 0, 0, 0⟩ W
      rw [show inB ⟨6, a, b, 0, 0⟩ ⟨6, a, 0, 0, 0⟩ = false by simp [inB, zb]] at this
      exact this
    clear HX zb hA hp hz
    go_enter Tryd.func50, Tryd.ntmps50
    go_wp2_with fail
    have Bs : Blk (w.alloc (.cells #[.int .i64 6, .int .i64 a, .int .i64 b, .int .i64 0, .int .i64 0] 37)) w.heap.size 37 #[.int .i64 6, .int .i64 a, .int .i64 b, .int .i64 0, .int .i64 0] := Blk.new _ _ _
    have HB : Hid (Below w.heap.size w (w.alloc (.cells #[.int .i64 6, .int .i64 a, .int .i64 b, .int .i64 0, .int .i64 0] 37))) := hid (by exact blBy)
    generalize w.alloc (.cells #[.int .i64 6, .int .i64 a, .int .i64 b, .int .i64 0, .int .i64 0] 37) = V at *
    refine wp_region_held_drew (S := fun W => ∀ i, W.cell? ⟨w.heap.size, i, none⟩ = #[.int .i64 6, .int .i64 a, .int .i64 b, .int .i64 0, .int .i64 0][i]?) (by kernel_rfl) ?_ (fun hHeld => ?_)
    · exact (Bs.kept (below_drew1 _)).cellF
    refine tkI 0 ?_
    try go_frame
    refine tkI 1 ?_
    try go_frame
    refine tkI 2 ?_
    try go_frame
    refine tkI 3 ?_
    try go_frame
    refine tkI 4 ?_
    try go_frame
    refine wpAnyH_ready (rs := [5]) (by kernel_rfl) (by simp) ?_
    refine AllReadyH.cons rfl (fun K hK => ?_) AllReadyH.nil
    go_simp
    refine hK.out _ _ ?_ (fun hHeld => ?_)
    · first | exact Bs.cellF | exact (Bs.kept (bl_drew (below_alloc _))).cellF | exact (Bs.kept (below_alloc _)).cellF
    clear hK K
    try go_frame
    refine wpAnyH_ready (rs := [6]) (by kernel_rfl) (by simp) ?_
    refine AllReadyH.cons rfl (fun K hK => ?_) AllReadyH.nil
    go_simp
    go_wp2_with (go_at_call 64; refine (HS.out _ _ ((Blk.new _ _ _).kept (below_drew1 _))).mono ?_; rintro e w1 ⟨rfl, hbx⟩; replace Bs := Bs.kept (below_trans (by first | exact Below.refl _ _ | exact below_drew1 _ | exact below_drewN _ _ | exact bl_drew (below_alloc _)) hbx); replace HB := hid (below_trans HB.out (below_trans (by first | exact Below.refl _ _ | exact below_drew1 _ | exact below_drewN _ _ | exact bl_drew (below_alloc _)) hbx)); clear hbx)
    refine hK.out _ _ ?_ (fun hHeld => ?_)
    · first | exact Bs.cellF | exact (Bs.kept (bl_drew (below_alloc _))).cellF | exact (Bs.kept (below_alloc _)).cellF
    clear hK K
    try go_frame
    refine tkI 7 ?_
    try go_frame
    refine tkI 8 ?_
    try go_frame
    refine tkU 9 ?_
    try go_frame
    refine tkU 10 ?_
    try go_frame
    refine tkU 11 ?_
    try go_frame
    refine tkU 12 ?_
    try go_frame
    refine tkI 13 ?_
    try go_frame
    refine tkI 14 ?_
    try go_frame
    refine wpAnyH_done (by kernel_rfl) ?_ _
    try simp only [Act.put, List.getElem_toArray, List.getElem_cons_succ, List.getElem_cons_zero, List.setIfInBounds_toArray, List.set_cons_zero, List.set_cons_succ]
    go_wp2
    go_ret
    exact ⟨rfl, HB.out⟩
  subst zb
  replace HX : Hid (v = (enI bs a)) := hid (by rw [HX.out]; simp)
  have HS : Hid (∀ W zb, Blk W zb 3 (ints [a]) → Calls Tryd.prog 64 #[.int .i64 6, .slice (some ⟨zb, 0, none⟩) 1 1] W fun e w' => e = .returned (.agg #[.int .i64 6, .int .i64 a, .int .i64 0, .int .i64 0, .int .i64 0]) ∧ Below W.heap.size W w') := hid fun W zb hB => stepL W 6 [a] (by simp) zb hB
  have heq : ∀ W, (Op.equalIn 10000 37 (.agg #[.int .i64 6, .int .i64 a, .int .i64 0, .int .i64 0, .int .i64 0]) (.agg #[.int .i64 6, .int .i64 a, .int .i64 0, .int .i64 0, .int .i64 0])).run Tryd.prog W = .ok true W := fun W => by
    have := eqIN ⟨6, a, 0, 0, 0⟩ ⟨6, a, 0, 0, 0⟩ W
    rw [(inB_iff _ _).2 rfl] at this
    exact this
  have H0 := hid (fun W (hW : Below w.heap.size w W) => isEnumP W bs ba bc (hp.kept hW) hz a)
  cases s0 : enI bs a with
  | false =>
    rw [s0] at H0
    obtain rfl : v = false := by rw [HX.out]; simp [s0]
    clear HX s0 hA hp hz
    go_enter Tryd.func50, Tryd.ntmps50
    go_wp2_with fail
    have Bs : Blk (w.alloc (.cells #[.int .i64 6, .int .i64 a, .int .i64 0, .int .i64 0, .int .i64 0] 37)) w.heap.size 37 #[.int .i64 6, .int .i64 a, .int .i64 0, .int .i64 0, .int .i64 0] := Blk.new _ _ _
    have HB : Hid (Below w.heap.size w (w.alloc (.cells #[.int .i64 6, .int .i64 a, .int .i64 0, .int .i64 0, .int .i64 0] 37))) := hid (by exact blBy)
    generalize w.alloc (.cells #[.int .i64 6, .int .i64 a, .int .i64 0, .int .i64 0, .int .i64 0] 37) = V at *
    refine wp_region_held_drew (S := fun W => ∀ i, W.cell? ⟨w.heap.size, i, none⟩ = #[.int .i64 6, .int .i64 a, .int .i64 0, .int .i64 0, .int .i64 0][i]?) (by kernel_rfl) ?_ (fun hHeld => ?_)
    · exact (Bs.kept (below_drew1 _)).cellF
    refine tkI 0 ?_
    try go_frame
    refine tkI 1 ?_
    try go_frame
    refine tkI 2 ?_
    try go_frame
    refine tkI 3 ?_
    try go_frame
    refine tkI 4 ?_
    try go_frame
    refine wpAnyH_ready (rs := [5]) (by kernel_rfl) (by simp) ?_
    refine AllReadyH.cons rfl (fun K hK => ?_) AllReadyH.nil
    go_simp
    refine hK.out _ _ ?_ (fun hHeld => ?_)
    · first | exact Bs.cellF | exact (Bs.kept (bl_drew (below_alloc _))).cellF | exact (Bs.kept (below_alloc _)).cellF
    clear hK K
    try go_frame
    refine wpAnyH_ready (rs := [6]) (by kernel_rfl) (by simp) ?_
    refine AllReadyH.cons rfl (fun K hK => ?_) AllReadyH.nil
    go_simp
    go_wp2_with (go_at_call 64; refine (HS.out _ _ ((Blk.new _ _ _).kept (below_drew1 _))).mono ?_; rintro e w1 ⟨rfl, hbx⟩; replace Bs := Bs.kept (below_trans (by first | exact Below.refl _ _ | exact below_drew1 _ | exact below_drewN _ _ | exact bl_drew (below_alloc _)) hbx); replace HB := hid (below_trans HB.out (below_trans (by first | exact Below.refl _ _ | exact below_drew1 _ | exact below_drewN _ _ | exact bl_drew (below_alloc _)) hbx)); clear hbx)
    refine hK.out _ _ ?_ (fun hHeld => ?_)
    · first | exact Bs.cellF | exact (Bs.kept (bl_drew (below_alloc _))).cellF | exact (Bs.kept (below_alloc _)).cellF
    clear hK K
    try go_frame
    refine tkI 7 ?_
    try go_frame
    refine tkI 8 ?_
    try go_frame
    refine tkI 9 ?_
    try go_frame
    refine tkI 10 ?_
    try go_frame
    refine tkI 11 ?_
    try go_frame
    refine wpAnyH_ready (rs := [12]) (by kernel_rfl) (by simp) ?_
    refine AllReadyH.cons rfl (fun K hK => ?_) AllReadyH.nil
    go_simp
    go_wp2_with (go_at_call 66; refine (H0.out _ (below_trans HB.out (by first | exact Below.refl _ _ | exact below_drew1 _ | exact below_drewN _ _))).mono ?_; rintro e w2 ⟨rfl, hbx⟩; replace Bs := Bs.kept (below_trans (by first | exact Below.refl _ _ | exact below_drew1 _ | exact below_drewN _ _ | exact bl_drew (below_alloc _)) hbx); replace HB := hid (below_trans HB.out (below_trans (by first | exact Below.refl _ _ | exact below_drew1 _ | exact below_drewN _ _ | exact bl_drew (below_alloc _)) hbx)); clear hbx)
    refine hK.out _ _ ?_ (fun hHeld => ?_)
    · first | exact Bs.cellF | exact (Bs.kept (bl_drew (below_alloc _))).cellF | exact (Bs.kept (below_alloc _)).cellF
    clear hK K
    try go_frame
    refine tkI 13 ?_
    try go_frame
    refine tkI 14 ?_
    try go_frame
    refine wpAnyH_done (by kernel_rfl) ?_ _
    try simp only [Act.put, List.getElem_toArray, List.getElem_cons_succ, List.getElem_cons_zero, List.setIfInBounds_toArray, List.set_cons_zero, List.set_cons_succ]
    go_wp2
    go_ret
    exact ⟨rfl, HB.out⟩
  | true =>
  rw [s0] at H0
  replace HX : Hid (v = (true)) := hid (by rw [HX.out]; simp [s0])
  clear s0
  obtain rfl : v = true := by first | exact HX.out | (rw [HX.out]; simp)
  clear HX hA hp hz
  go_enter Tryd.func50, Tryd.ntmps50
  go_wp2_with fail
  have Bs : Blk (w.alloc (.cells #[.int .i64 6, .int .i64 a, .int .i64 0, .int .i64 0, .int .i64 0] 37)) w.heap.size 37 #[.int .i64 6, .int .i64 a, .int .i64 0, .int .i64 0, .int .i64 0] := Blk.new _ _ _
  have HB : Hid (Below w.heap.size w (w.alloc (.cells #[.int .i64 6, .int .i64 a, .int .i64 0, .int .i64 0, .int .i64 0] 37))) := hid (by exact blBy)
  generalize w.alloc (.cells #[.int .i64 6, .int .i64 a, .int .i64 0, .int .i64 0, .int .i64 0] 37) = V at *
  refine wp_region_held_drew (S := fun W => ∀ i, W.cell? ⟨w.heap.size, i, none⟩ = #[.int .i64 6, .int .i64 a, .int .i64 0, .int .i64 0, .int .i64 0][i]?) (by kernel_rfl) ?_ (fun hHeld => ?_)
  · exact (Bs.kept (below_drew1 _)).cellF
  refine tkI 0 ?_
  try go_frame
  refine tkI 1 ?_
  try go_frame
  refine tkI 2 ?_
  try go_frame
  refine tkI 3 ?_
  try go_frame
  refine tkI 4 ?_
  try go_frame
  refine wpAnyH_ready (rs := [5]) (by kernel_rfl) (by simp) ?_
  refine AllReadyH.cons rfl (fun K hK => ?_) AllReadyH.nil
  go_simp
  refine hK.out _ _ ?_ (fun hHeld => ?_)
  · first | exact Bs.cellF | exact (Bs.kept (bl_drew (below_alloc _))).cellF | exact (Bs.kept (below_alloc _)).cellF
  clear hK K
  try go_frame
  refine wpAnyH_ready (rs := [6]) (by kernel_rfl) (by simp) ?_
  refine AllReadyH.cons rfl (fun K hK => ?_) AllReadyH.nil
  go_simp
  go_wp2_with (go_at_call 64; refine (HS.out _ _ ((Blk.new _ _ _).kept (below_drew1 _))).mono ?_; rintro e w1 ⟨rfl, hbx⟩; replace Bs := Bs.kept (below_trans (by first | exact Below.refl _ _ | exact below_drew1 _ | exact below_drewN _ _ | exact bl_drew (below_alloc _)) hbx); replace HB := hid (below_trans HB.out (below_trans (by first | exact Below.refl _ _ | exact below_drew1 _ | exact below_drewN _ _ | exact bl_drew (below_alloc _)) hbx)); clear hbx)
  refine hK.out _ _ ?_ (fun hHeld => ?_)
  · first | exact Bs.cellF | exact (Bs.kept (bl_drew (below_alloc _))).cellF | exact (Bs.kept (below_alloc _)).cellF
  clear hK K
  try go_frame
  refine tkI 7 ?_
  try go_frame
  refine tkI 8 ?_
  try go_frame
  refine tkI 9 ?_
  try go_frame
  refine tkI 10 ?_
  try go_frame
  refine tkI 11 ?_
  try go_frame
  refine wpAnyH_ready (rs := [12]) (by kernel_rfl) (by simp) ?_
  refine AllReadyH.cons rfl (fun K hK => ?_) AllReadyH.nil
  go_simp
  go_wp2_with (go_at_call 66; refine (H0.out _ (below_trans HB.out (by first | exact Below.refl _ _ | exact below_drew1 _ | exact below_drewN _ _))).mono ?_; rintro e w2 ⟨rfl, hbx⟩; replace Bs := Bs.kept (below_trans (by first | exact Below.refl _ _ | exact below_drew1 _ | exact below_drewN _ _ | exact bl_drew (below_alloc _)) hbx); replace HB := hid (below_trans HB.out (below_trans (by first | exact Below.refl _ _ | exact below_drew1 _ | exact below_drewN _ _ | exact bl_drew (below_alloc _)) hbx)); clear hbx)
  refine hK.out _ _ ?_ (fun hHeld => ?_)
  · first | exact Bs.cellF | exact (Bs.kept (bl_drew (below_alloc _))).cellF | exact (Bs.kept (below_alloc _)).cellF
  clear hK K
  try go_frame
  refine tkI 13 ?_
  try go_frame
  refine tkI 14 ?_
  try go_frame
  refine wpAnyH_done (by kernel_rfl) ?_ _
  try simp only [Act.put, List.getElem_toArray, List.getElem_cons_succ, List.getElem_cons_zero, List.setIfInBounds_toArray, List.set_cons_zero, List.set_cons_succ]
  go_wp2
  go_ret
  exact ⟨rfl, HB.out⟩
theorem wr_7 (w : World) (bs : List BV) (ba : Option Addr) (bc : Nat) (hp : PgR w (.slice ba bs.length bc) bs) (hz : ∀ x ∈ bs, x.k.dec.length ≤ 140737488355328 ∧ x.k.enc.length ≤ 140737488355328) (caps : Array Value) (ah : Int → Bool) (hA : ∀ tg W, Below w.heap.size w W → Calls Tryd.prog 49 (#[.int .i64 tg] ++ caps) W (BoA W (ah tg))) (a b c d : Int) : Calls Tryd.prog 50 #[.slice ba bs.length bc, .agg #[.int .i64 7, .int .i64 a, .int .i64 b, .int .i64 c, .int .i64 d], .func (.func 49) #[] caps] w (BoA w (decide (d = 0) && (decide (c = 0) && (decide (b = 0) && (fdI a))))) := by
  have hgd := gdIN
  obtain ⟨v, HX⟩ : ∃ v, Hid (v = (decide (d = 0) && (decide (c = 0) && (decide (b = 0) && (fdI a))))) := ⟨_, hid rfl⟩
  rw [← HX.out]
  by_cases zd : d = 0
  case neg =>
    obtain rfl : v = false := by rw [HX.out]; simp [zd]
    have HS : Hid (∀ W zb, Blk W zb 3 (ints [a]) → Calls Tryd.prog 64 #[.int .i64 7, .slice (some ⟨zb, 0, none⟩) 1 1] W fun e w' => e = .returned (.agg #[.int .i64 7, .int .i64 a, .int .i64 0, .int .i64 0, .int .i64 0]) ∧ Below W.heap.size W w') := hid fun W zb hB => stepL W 7 [a] (by simp) zb hB
    have heq : ∀ W, (Op.equalIn 10000 37 (.agg #[.int .i64 7, .int .i64 a, .int .i64 b, .int .i64 c, .int .i64 d]) (.agg #[.int .i64 7, .int .i64 a, .int .i64 0, .int .i64 0, .int .i64 0])).run Tryd.prog W = .ok false W := fun W => by
      have := eqIN ⟨7, a, b, c, d⟩ ⟨7, a, 0, 0, 0⟩ W
      rw [show inB ⟨7, a, b, c, d⟩ ⟨7, a, 0, 0, 0⟩ = false by simp [inB, zd]] at this
      exact this
    clear HX zd hA hp hz
    go_enter Tryd.func50, Tryd.ntmps50
    go_wp2_with fail
    have Bs : Blk (w.alloc (.cells #[.int .i64 7, .int .i64 a, .int .i64 b, .int .i64 c, .int .i64 d] 37)) w.heap.size 37 #[.int .i64 7, .int .i64 a, .int .i64 b, .int .i64 c, .int .i64 d] := Blk.new _ _ _
    have HB : Hid (Below w.heap.size w (w.alloc (.cells #[.int .i64 7, .int .i64 a, .int .i64 b, .int .i64 c, .int .i64 d] 37))) := hid (by exact blBy)
    generalize w.alloc (.cells #[.int .i64 7, .int .i64 a, .int .i64 b, .int .i64 c, .int .i64 d] 37) = V at *
    refine wp_region_held_drew (S := fun W => ∀ i, W.cell? ⟨w.heap.size, i, none⟩ = #[.int .i64 7, .int .i64 a, .int .i64 b, .int .i64 c, .int .i64 d][i]?) (by kernel_rfl) ?_ (fun hHeld => ?_)
    · exact (Bs.kept (below_drew1 _)).cellF
    refine tkI 0 ?_
    try go_frame
    refine tkI 1 ?_
    try go_frame
    refine tkI 2 ?_
    try go_frame
    refine tkI 3 ?_
    try go_frame
    refine tkI 4 ?_
    try go_frame
    refine wpAnyH_ready (rs := [5]) (by kernel_rfl) (by simp) ?_
    refine AllReadyH.cons rfl (fun K hK => ?_) AllReadyH.nil
    go_simp
    refine hK.out _ _ ?_ (fun hHeld => ?_)
    · first | exact Bs.cellF | exact (Bs.kept (bl_drew (below_alloc _))).cellF | exact (Bs.kept (below_alloc _)).cellF
    clear hK K
    try go_frame
    refine wpAnyH_ready (rs := [6]) (by kernel_rfl) (by simp) ?_
    refine AllReadyH.cons rfl (fun K hK => ?_) AllReadyH.nil
    go_simp
    go_wp2_with (go_at_call 64; refine (HS.out _ _ ((Blk.new _ _ _).kept (below_drew1 _))).mono ?_; rintro e w1 ⟨rfl, hbx⟩; replace Bs := Bs.kept (below_trans (by first | exact Below.refl _ _ | exact below_drew1 _ | exact below_drewN _ _ | exact bl_drew (below_alloc _)) hbx); replace HB := hid (below_trans HB.out (below_trans (by first | exact Below.refl _ _ | exact below_drew1 _ | exact below_drewN _ _ | exact bl_drew (below_alloc _)) hbx)); clear hbx)
    refine hK.out _ _ ?_ (fun hHeld => ?_)
    · first | exact Bs.cellF | exact (Bs.kept (bl_drew (below_alloc _))).cellF | exact (Bs.kept (below_alloc _)).cellF
    clear hK K
    try go_frame
    refine tkI 7 ?_
    try go_frame
    refine tkI 8 ?_
    try go_frame
    refine tkU 9 ?_
    try go_frame
    refine tkU 10 ?_
    try go_frame
    refine tkU 11 ?_
    try go_frame
    refine tkI 12 ?_
    try go_frame
    refine tkI 13 ?_
    try go_frame
    refine wpAnyH_done (by kernel_rfl) ?_ _
    try simp only [Act.put, List.getElem_toArray, List.getElem_cons_succ, List.getElem_cons_zero, List.setIfInBounds_toArray, List.set_cons_zero, List.set_cons_succ]
    go_wp2
    go_ret
    exact ⟨rfl, HB.out⟩
  subst zd
  by_cases zc : c = 0
  case neg =>
    obtain rfl : v = false := by rw [HX.out]; simp [zc]
    have HS : Hid (∀ W zb, Blk W zb 3 (ints [a]) → Calls Tryd.prog 64 #[.int .i64 7, .slice (some ⟨zb, 0, none⟩) 1 1] W fun e w' => e = .returned (.agg #[.int .i64 7, .int .i64 a, .int .i64 0, .int .i64 0, .int .i64 0]) ∧ Below W.heap.size W w') := hid fun W zb hB => stepL W 7 [a] (by simp) zb hB
    have heq : ∀ W, (Op.equalIn 10000 37 (.agg #[.int .i64 7, .int .i64 a, .int .i64 b, .int .i64 c, .int .i64 0]) (.agg #[.int .i64 7, .int .i64 a, .int .i64 0, .int .i64 0, .int .i64 0])).run Tryd.prog W = .ok false W := fun W => by
      have := eqIN ⟨7, a, b, c, 0⟩ ⟨7, a, 0, 0, 0⟩ W
      rw [show inB ⟨7, a, b, c, 0⟩ ⟨7, a, 0, 0, 0⟩ = false by simp [inB, zc]] at this
      exact this
    clear HX zc hA hp hz
    go_enter Tryd.func50, Tryd.ntmps50
    go_wp2_with fail
    have Bs : Blk (w.alloc (.cells #[.int .i64 7, .int .i64 a, .int .i64 b, .int .i64 c, .int .i64 0] 37)) w.heap.size 37 #[.int .i64 7, .int .i64 a, .int .i64 b, .int .i64 c, .int .i64 0] := Blk.new _ _ _
    have HB : Hid (Below w.heap.size w (w.alloc (.cells #[.int .i64 7, .int .i64 a, .int .i64 b, .int .i64 c, .int .i64 0] 37))) := hid (by exact blBy)
    generalize w.alloc (.cells #[.int .i64 7, .int .i64 a, .int .i64 b, .int .i64 c, .int .i64 0] 37) = V at *
    refine wp_region_held_drew (S := fun W => ∀ i, W.cell? ⟨w.heap.size, i, none⟩ = #[.int .i64 7, .int .i64 a, .int .i64 b, .int .i64 c, .int .i64 0][i]?) (by kernel_rfl) ?_ (fun hHeld => ?_)
    · exact (Bs.kept (below_drew1 _)).cellF
    refine tkI 0 ?_
    try go_frame
    refine tkI 1 ?_
    try go_frame
    refine tkI 2 ?_
    try go_frame
    refine tkI 3 ?_
    try go_frame
    refine tkI 4 ?_
    try go_frame
    refine wpAnyH_ready (rs := [5]) (by kernel_rfl) (by simp) ?_
    refine AllReadyH.cons rfl (fun K hK => ?_) AllReadyH.nil
    go_simp
    refine hK.out _ _ ?_ (fun hHeld => ?_)
    · first | exact Bs.cellF | exact (Bs.kept (bl_drew (below_alloc _))).cellF | exact (Bs.kept (below_alloc _)).cellF
    clear hK K
    try go_frame
    refine wpAnyH_ready (rs := [6]) (by kernel_rfl) (by simp) ?_
    refine AllReadyH.cons rfl (fun K hK => ?_) AllReadyH.nil
    go_simp
    go_wp2_with (go_at_call 64; refine (HS.out _ _ ((Blk.new _ _ _).kept (below_drew1 _))).mono ?_; rintro e w1 ⟨rfl, hbx⟩; replace Bs := Bs.kept (below_trans (by first | exact Below.refl _ _ | exact below_drew1 _ | exact below_drewN _ _ | exact bl_drew (below_alloc _)) hbx); replace HB := hid (below_trans HB.out (below_trans (by first | exact Below.refl _ _ | exact below_drew1 _ | exact below_drewN _ _ | exact bl_drew (below_alloc _)) hbx)); clear hbx)
    refine hK.out _ _ ?_ (fun hHeld => ?_)
    · first | exact Bs.cellF | exact (Bs.kept (bl_drew (below_alloc _))).cellF | exact (Bs.kept (below_alloc _)).cellF
    clear hK K
    try go_frame
    refine tkI 7 ?_
    try go_frame
    refine tkI 8 ?_
    try go_frame
    refine tkU 9 ?_
    try go_frame
    refine tkU 10 ?_
    try go_frame
    refine tkU 11 ?_
    try go_frame
    refine tkI 12 ?_
    try go_frame
    refine tkI 13 ?_
    try go_frame
    refine wpAnyH_done (by kernel_rfl) ?_ _
    try simp only [Act.put, List.getElem_toArray, List.getElem_cons_succ, List.getElem_cons_zero, List.setIfInBounds_toArray, List.set_cons_zero, List.set_cons_succ]
    go_wp2
    go_ret
    exact ⟨rfl, HB.out⟩
  subst zc
  by_cases zb : b = 0
  case neg =>
    obtain rfl : v = false := by rw [HX.out]; simp [zb]
    have HS : Hid (∀ W zb, Blk W zb 3 (ints [a]) → Calls Tryd.prog 64 #[.int .i64 7, .slice (some ⟨zb, 0, none⟩) 1 1] W fun e w' => e = .returned (.agg #[.int .i64 7, .int .i64 a, .int .i64 0, .int .i64 0, .int .i64 0]) ∧ Below W.heap.size W w') := hid fun W zb hB => stepL W 7 [a] (by simp) zb hB
    have heq : ∀ W, (Op.equalIn 10000 37 (.agg #[.int .i64 7, .int .i64 a, .int .i64 b, .int .i64 0, .int .i64 0]) (.agg #[.int .i64 7, .int .i64 a, .int .i64 0, .int .i64 0, .int .i64 0])).run Tryd.prog W = .ok false W := fun W => by
      have := eqIN ⟨7, a, b, 0, 0⟩ ⟨7, a, 0, 0, 0⟩ W
      rw [show inB ⟨7, a, b, 0, 0⟩ ⟨7, a, 0, 0, 0⟩ = false by simp [inB, zb]] at this
      exact this
    clear HX zb hA hp hz
    go_enter Tryd.func50, Tryd.ntmps50
    go_wp2_with fail
    have Bs : Blk (w.alloc (.cells #[.int .i64 7, .int .i64 a, .int .i64 b, .int .i64 0, .int .i64 0] 37)) w.heap.size 37 #[.int .i64 7, .int .i64 a, .int .i64 b, .int .i64 0, .int .i64 0] := Blk.new _ _ _
    have HB : Hid (Below w.heap.size w (w.alloc (.cells #[.int .i64 7, .int .i64 a, .int .i64 b, .int .i64 0, .int .i64 0] 37))) := hid (by exact blBy)
    generalize w.alloc (.cells #[.int .i64 7, .int .i64 a, .int .i64 b, .int .i64 0, .int .i64 0] 37) = V at *
    refine wp_region_held_drew (S := fun W => ∀ i, W.cell? ⟨w.heap.size, i, none⟩ = #[.int .i64 7, .int .i64 a, .int .i64 b, .int .i64 0, .int .i64 0][i]?) (by kernel_rfl) ?_ (fun hHeld => ?_)
    · exact (Bs.kept (below_drew1 _)).cellF
    refine tkI 0 ?_
    try go_frame
    refine tkI 1 ?_
    try go_frame
    refine tkI 2 ?_
    try go_frame
    refine tkI 3 ?_
    try go_frame
    refine tkI 4 ?_
    try go_frame
    refine wpAnyH_ready (rs := [5]) (by kernel_rfl) (by simp) ?_
    refine AllReadyH.cons rfl (fun K hK => ?_) AllReadyH.nil
    go_simp
    refine hK.out _ _ ?_ (fun hHeld => ?_)
    · first | exact Bs.cellF | exact (Bs.kept (bl_drew (below_alloc _))).cellF | exact (Bs.kept (below_alloc _)).cellF
    clear hK K
    try go_frame
    refine wpAnyH_ready (rs := [6]) (by kernel_rfl) (by simp) ?_
    refine AllReadyH.cons rfl (fun K hK => ?_) AllReadyH.nil
    go_simp
    go_wp2_with (go_at_call 64; refine (HS.out _ _ ((Blk.new _ _ _).kept (below_drew1 _))).mono ?_; rintro e w1 ⟨rfl, hbx⟩; replace Bs := Bs.kept (below_trans (by first | exact Below.refl _ _ | exact below_drew1 _ | exact below_drewN _ _ | exact bl_drew (below_alloc _)) hbx); replace HB := hid (below_trans HB.out (below_trans (by first | exact Below.refl _ _ | exact below_drew1 _ | exact below_drewN _ _ | exact bl_drew (below_alloc _)) hbx)); clear hbx)
    refine hK.out _ _ ?_ (fun hHeld => ?_)
    · first | exact Bs.cellF | exact (Bs.kept (bl_drew (below_alloc _))).cellF | exact (Bs.kept (below_alloc _)).cellF
    clear hK K
    try go_frame
    refine tkI 7 ?_
    try go_frame
    refine tkI 8 ?_
    try go_frame
    refine tkU 9 ?_
    try go_frame
    refine tkU 10 ?_
    try go_frame
    refine tkU 11 ?_
    try go_frame
    refine tkI 12 ?_
    try go_frame
    refine tkI 13 ?_
    try go_frame
    refine wpAnyH_done (by kernel_rfl) ?_ _
    try simp only [Act.put, List.getElem_toArray, List.getElem_cons_succ, List.getElem_cons_zero, List.setIfInBounds_toArray, List.set_cons_zero, List.set_cons_succ]
    go_wp2
    go_ret
    exact ⟨rfl, HB.out⟩
  subst zb
  replace HX : Hid (v = (fdI a)) := hid (by rw [HX.out]; simp)
  have HS : Hid (∀ W zb, Blk W zb 3 (ints [a]) → Calls Tryd.prog 64 #[.int .i64 7, .slice (some ⟨zb, 0, none⟩) 1 1] W fun e w' => e = .returned (.agg #[.int .i64 7, .int .i64 a, .int .i64 0, .int .i64 0, .int .i64 0]) ∧ Below W.heap.size W w') := hid fun W zb hB => stepL W 7 [a] (by simp) zb hB
  have heq : ∀ W, (Op.equalIn 10000 37 (.agg #[.int .i64 7, .int .i64 a, .int .i64 0, .int .i64 0, .int .i64 0]) (.agg #[.int .i64 7, .int .i64 a, .int .i64 0, .int .i64 0, .int .i64 0])).run Tryd.prog W = .ok true W := fun W => by
    have := eqIN ⟨7, a, 0, 0, 0⟩ ⟨7, a, 0, 0, 0⟩ W
    rw [(inB_iff _ _).2 rfl] at this
    exact this
  have H0 := hid (fun W => isFieldP W a)
  cases s0 : fdI a with
  | false =>
    rw [s0] at H0
    obtain rfl : v = false := by rw [HX.out]; simp [s0]
    clear HX s0 hA hp hz
    go_enter Tryd.func50, Tryd.ntmps50
    go_wp2_with fail
    have Bs : Blk (w.alloc (.cells #[.int .i64 7, .int .i64 a, .int .i64 0, .int .i64 0, .int .i64 0] 37)) w.heap.size 37 #[.int .i64 7, .int .i64 a, .int .i64 0, .int .i64 0, .int .i64 0] := Blk.new _ _ _
    have HB : Hid (Below w.heap.size w (w.alloc (.cells #[.int .i64 7, .int .i64 a, .int .i64 0, .int .i64 0, .int .i64 0] 37))) := hid (by exact blBy)
    generalize w.alloc (.cells #[.int .i64 7, .int .i64 a, .int .i64 0, .int .i64 0, .int .i64 0] 37) = V at *
    refine wp_region_held_drew (S := fun W => ∀ i, W.cell? ⟨w.heap.size, i, none⟩ = #[.int .i64 7, .int .i64 a, .int .i64 0, .int .i64 0, .int .i64 0][i]?) (by kernel_rfl) ?_ (fun hHeld => ?_)
    · exact (Bs.kept (below_drew1 _)).cellF
    refine tkI 0 ?_
    try go_frame
    refine tkI 1 ?_
    try go_frame
    refine tkI 2 ?_
    try go_frame
    refine tkI 3 ?_
    try go_frame
    refine tkI 4 ?_
    try go_frame
    refine wpAnyH_ready (rs := [5]) (by kernel_rfl) (by simp) ?_
    refine AllReadyH.cons rfl (fun K hK => ?_) AllReadyH.nil
    go_simp
    refine hK.out _ _ ?_ (fun hHeld => ?_)
    · first | exact Bs.cellF | exact (Bs.kept (bl_drew (below_alloc _))).cellF | exact (Bs.kept (below_alloc _)).cellF
    clear hK K
    try go_frame
    refine wpAnyH_ready (rs := [6]) (by kernel_rfl) (by simp) ?_
    refine AllReadyH.cons rfl (fun K hK => ?_) AllReadyH.nil
    go_simp
    go_wp2_with (go_at_call 64; refine (HS.out _ _ ((Blk.new _ _ _).kept (below_drew1 _))).mono ?_; rintro e w1 ⟨rfl, hbx⟩; replace Bs := Bs.kept (below_trans (by first | exact Below.refl _ _ | exact below_drew1 _ | exact below_drewN _ _ | exact bl_drew (below_alloc _)) hbx); replace HB := hid (below_trans HB.out (below_trans (by first | exact Below.refl _ _ | exact below_drew1 _ | exact below_drewN _ _ | exact bl_drew (below_alloc _)) hbx)); clear hbx)
    refine hK.out _ _ ?_ (fun hHeld => ?_)
    · first | exact Bs.cellF | exact (Bs.kept (bl_drew (below_alloc _))).cellF | exact (Bs.kept (below_alloc _)).cellF
    clear hK K
    try go_frame
    refine tkI 7 ?_
    try go_frame
    refine tkI 8 ?_
    try go_frame
    refine tkI 9 ?_
    try go_frame
    refine tkI 10 ?_
    try go_frame
    refine wpAnyH_ready (rs := [11]) (by kernel_rfl) (by simp) ?_
    refine AllReadyH.cons rfl (fun K hK => ?_) AllReadyH.nil
    go_simp
    go_wp2_with (go_at_call 67; refine (H0.out _).mono ?_; rintro e w2 ⟨rfl, rfl⟩)
    refine hK.out _ _ ?_ (fun hHeld => ?_)
    · first | exact Bs.cellF | exact (Bs.kept (bl_drew (below_alloc _))).cellF | exact (Bs.kept (below_alloc _)).cellF
    clear hK K
    try go_frame
    refine tkI 12 ?_
    try go_frame
    refine tkI 13 ?_
    try go_frame
    refine wpAnyH_done (by kernel_rfl) ?_ _
    try simp only [Act.put, List.getElem_toArray, List.getElem_cons_succ, List.getElem_cons_zero, List.setIfInBounds_toArray, List.set_cons_zero, List.set_cons_succ]
    go_wp2
    go_ret
    exact ⟨rfl, HB.out⟩
  | true =>
  rw [s0] at H0
  replace HX : Hid (v = (true)) := hid (by rw [HX.out]; simp [s0])
  clear s0
  obtain rfl : v = true := by first | exact HX.out | (rw [HX.out]; simp)
  clear HX hA hp hz
  go_enter Tryd.func50, Tryd.ntmps50
  go_wp2_with fail
  have Bs : Blk (w.alloc (.cells #[.int .i64 7, .int .i64 a, .int .i64 0, .int .i64 0, .int .i64 0] 37)) w.heap.size 37 #[.int .i64 7, .int .i64 a, .int .i64 0, .int .i64 0, .int .i64 0] := Blk.new _ _ _
  have HB : Hid (Below w.heap.size w (w.alloc (.cells #[.int .i64 7, .int .i64 a, .int .i64 0, .int .i64 0, .int .i64 0] 37))) := hid (by exact blBy)
  generalize w.alloc (.cells #[.int .i64 7, .int .i64 a, .int .i64 0, .int .i64 0, .int .i64 0] 37) = V at *
  refine wp_region_held_drew (S := fun W => ∀ i, W.cell? ⟨w.heap.size, i, none⟩ = #[.int .i64 7, .int .i64 a, .int .i64 0, .int .i64 0, .int .i64 0][i]?) (by kernel_rfl) ?_ (fun hHeld => ?_)
  · exact (Bs.kept (below_drew1 _)).cellF
  refine tkI 0 ?_
  try go_frame
  refine tkI 1 ?_
  try go_frame
  refine tkI 2 ?_
  try go_frame
  refine tkI 3 ?_
  try go_frame
  refine tkI 4 ?_
  try go_frame
  refine wpAnyH_ready (rs := [5]) (by kernel_rfl) (by simp) ?_
  refine AllReadyH.cons rfl (fun K hK => ?_) AllReadyH.nil
  go_simp
  refine hK.out _ _ ?_ (fun hHeld => ?_)
  · first | exact Bs.cellF | exact (Bs.kept (bl_drew (below_alloc _))).cellF | exact (Bs.kept (below_alloc _)).cellF
  clear hK K
  try go_frame
  refine wpAnyH_ready (rs := [6]) (by kernel_rfl) (by simp) ?_
  refine AllReadyH.cons rfl (fun K hK => ?_) AllReadyH.nil
  go_simp
  go_wp2_with (go_at_call 64; refine (HS.out _ _ ((Blk.new _ _ _).kept (below_drew1 _))).mono ?_; rintro e w1 ⟨rfl, hbx⟩; replace Bs := Bs.kept (below_trans (by first | exact Below.refl _ _ | exact below_drew1 _ | exact below_drewN _ _ | exact bl_drew (below_alloc _)) hbx); replace HB := hid (below_trans HB.out (below_trans (by first | exact Below.refl _ _ | exact below_drew1 _ | exact below_drewN _ _ | exact bl_drew (below_alloc _)) hbx)); clear hbx)
  refine hK.out _ _ ?_ (fun hHeld => ?_)
  · first | exact Bs.cellF | exact (Bs.kept (bl_drew (below_alloc _))).cellF | exact (Bs.kept (below_alloc _)).cellF
  clear hK K
  try go_frame
  refine tkI 7 ?_
  try go_frame
  refine tkI 8 ?_
  try go_frame
  refine tkI 9 ?_
  try go_frame
  refine tkI 10 ?_
  try go_frame
  refine wpAnyH_ready (rs := [11]) (by kernel_rfl) (by simp) ?_
  refine AllReadyH.cons rfl (fun K hK => ?_) AllReadyH.nil
  go_simp
  go_wp2_with (go_at_call 67; refine (H0.out _).mono ?_; rintro e w2 ⟨rfl, rfl⟩)
  refine hK.out _ _ ?_ (fun hHeld => ?_)
  · first | exact Bs.cellF | exact (Bs.kept (bl_drew (below_alloc _))).cellF | exact (Bs.kept (below_alloc _)).cellF
  clear hK K
  try go_frame
  refine tkI 12 ?_
  try go_frame
  refine tkI 13 ?_
  try go_frame
  refine wpAnyH_done (by kernel_rfl) ?_ _
  try simp only [Act.put, List.getElem_toArray, List.getElem_cons_succ, List.getElem_cons_zero, List.setIfInBounds_toArray, List.set_cons_zero, List.set_cons_succ]
  go_wp2
  go_ret
  exact ⟨rfl, HB.out⟩
theorem wr_8 (w : World) (bs : List BV) (ba : Option Addr) (bc : Nat) (hp : PgR w (.slice ba bs.length bc) bs) (hz : ∀ x ∈ bs, x.k.dec.length ≤ 140737488355328 ∧ x.k.enc.length ≤ 140737488355328) (caps : Array Value) (ah : Int → Bool) (hA : ∀ tg W, Below w.heap.size w W → Calls Tryd.prog 49 (#[.int .i64 tg] ++ caps) W (BoA W (ah tg))) (a b c d : Int) : Calls Tryd.prog 50 #[.slice ba bs.length bc, .agg #[.int .i64 8, .int .i64 a, .int .i64 b, .int .i64 c, .int .i64 d], .func (.func 49) #[] caps] w (BoA w (decide (d = 0) && (decide (c = 0) && (decide (b = 0) && (fdI a))))) := by
  have hgd := gdIN
  obtain ⟨v, HX⟩ : ∃ v, Hid (v = (decide (d = 0) && (decide (c = 0) && (decide (b = 0) && (fdI a))))) := ⟨_, hid rfl⟩
  rw [← HX.out]
  by_cases zd : d = 0
  case neg =>
    obtain rfl : v = false := by rw [HX.out]; simp [zd]
    have HS : Hid (∀ W zb, Blk W zb 3 (ints [a]) → Calls Tryd.prog 64 #[.int .i64 8, .slice (some ⟨zb, 0, none⟩) 1 1] W fun e w' => e = .returned (.agg #[.int .i64 8, .int .i64 a, .int .i64 0, .int .i64 0, .int .i64 0]) ∧ Below W.heap.size W w') := hid fun W zb hB => stepL W 8 [a] (by simp) zb hB
    have heq : ∀ W, (Op.equalIn 10000 37 (.agg #[.int .i64 8, .int .i64 a, .int .i64 b, .int .i64 c, .int .i64 d]) (.agg #[.int .i64 8, .int .i64 a, .int .i64 0, .int .i64 0, .int .i64 0])).run Tryd.prog W = .ok false W := fun W => by
      have := eqIN ⟨8, a, b, c, d⟩ ⟨8, a, 0, 0, 0⟩ W
      rw [show inB ⟨8, a, b, c, d⟩ ⟨8, a, 0, 0, 0⟩ = false by simp [inB, zd]] at this
      exact this
    clear HX zd hA hp hz
    go_enter Tryd.func50, Tryd.ntmps50
    go_wp2_with fail
    have Bs : Blk (w.alloc (.cells #[.int .i64 8, .int .i64 a, .int .i64 b, .int .i64 c, .int .i64 d] 37)) w.heap.size 37 #[.int .i64 8, .int .i64 a, .int .i64 b, .int .i64 c, .int .i64 d] := Blk.new _ _ _
    have HB : Hid (Below w.heap.size w (w.alloc (.cells #[.int .i64 8, .int .i64 a, .int .i64 b, .int .i64 c, .int .i64 d] 37))) := hid (by exact blBy)
    generalize w.alloc (.cells #[.int .i64 8, .int .i64 a, .int .i64 b, .int .i64 c, .int .i64 d] 37) = V at *
    refine wp_region_held_drew (S := fun W => ∀ i, W.cell? ⟨w.heap.size, i, none⟩ = #[.int .i64 8, .int .i64 a, .int .i64 b, .int .i64 c, .int .i64 d][i]?) (by kernel_rfl) ?_ (fun hHeld => ?_)
    · exact (Bs.kept (below_drew1 _)).cellF
    refine tkI 0 ?_
    try go_frame
    refine tkI 1 ?_
    try go_frame
    refine tkI 2 ?_
    try go_frame
    refine tkI 3 ?_
    try go_frame
    refine tkI 4 ?_
    try go_frame
    refine wpAnyH_ready (rs := [5]) (by kernel_rfl) (by simp) ?_
    refine AllReadyH.cons rfl (fun K hK => ?_) AllReadyH.nil
    go_simp
    refine hK.out _ _ ?_ (fun hHeld => ?_)
    · first | exact Bs.cellF | exact (Bs.kept (bl_drew (below_alloc _))).cellF | exact (Bs.kept (below_alloc _)).cellF
    clear hK K
    try go_frame
    refine wpAnyH_ready (rs := [6]) (by kernel_rfl) (by simp) ?_
    refine AllReadyH.cons rfl (fun K hK => ?_) AllReadyH.nil
    go_simp
    go_wp2_with (go_at_call 64; refine (HS.out _ _ ((Blk.new _ _ _).kept (below_drew1 _))).mono ?_; rintro e w1 ⟨rfl, hbx⟩; replace Bs := Bs.kept (below_trans (by first | exact Below.refl _ _ | exact below_drew1 _ | exact below_drewN _ _ | exact bl_drew (below_alloc _)) hbx); replace HB := hid (below_trans HB.out (below_trans (by first | exact Below.refl _ _ | exact below_drew1 _ | exact below_drewN _ _ | exact bl_drew (below_alloc _)) hbx)); clear hbx)
    refine hK.out _ _ ?_ (fun hHeld => ?_)
    · first | exact Bs.cellF | exact (Bs.kept (bl_drew (below_alloc _))).cellF | exact (Bs.kept (below_alloc _)).cellF
    clear hK K
    try go_frame
    refine tkI 7 ?_
    try go_frame
    refine tkI 8 ?_
    try go_frame
    refine tkU 9 ?_
    try go_frame
    refine tkU 10 ?_
    try go_frame
    refine tkU 11 ?_
    try go_frame
    refine tkI 12 ?_
    try go_frame
    refine tkI 13 ?_
    try go_frame
    refine wpAnyH_done (by kernel_rfl) ?_ _
    try simp only [Act.put, List.getElem_toArray, List.getElem_cons_succ, List.getElem_cons_zero, List.setIfInBounds_toArray, List.set_cons_zero, List.set_cons_succ]
    go_wp2
    go_ret
    exact ⟨rfl, HB.out⟩
  subst zd
  by_cases zc : c = 0
  case neg =>
    obtain rfl : v = false := by rw [HX.out]; simp [zc]
    have HS : Hid (∀ W zb, Blk W zb 3 (ints [a]) → Calls Tryd.prog 64 #[.int .i64 8, .slice (some ⟨zb, 0, none⟩) 1 1] W fun e w' => e = .returned (.agg #[.int .i64 8, .int .i64 a, .int .i64 0, .int .i64 0, .int .i64 0]) ∧ Below W.heap.size W w') := hid fun W zb hB => stepL W 8 [a] (by simp) zb hB
    have heq : ∀ W, (Op.equalIn 10000 37 (.agg #[.int .i64 8, .int .i64 a, .int .i64 b, .int .i64 c, .int .i64 0]) (.agg #[.int .i64 8, .int .i64 a, .int .i64 0, .int .i64 0, .int .i64 0])).run Tryd.prog W = .ok false W := fun W => by
      have := eqIN ⟨8, a, b, c, 0⟩ ⟨8, a, 0, 0, 0⟩ W
      rw [show inB ⟨8, a, b, c, 0⟩ ⟨8, a, 0, 0, 0⟩ = false by simp [inB, zc]] at this
      exact this
    clear HX zc hA hp hz
    go_enter Tryd.func50, Tryd.ntmps50
    go_wp2_with fail
    have Bs : Blk (w.alloc (.cells #[.int .i64 8, .int .i64 a, .int .i64 b, .int .i64 c, .int .i64 0] 37)) w.heap.size 37 #[.int .i64 8, .int .i64 a, .int .i64 b, .int .i64 c, .int .i64 0] := Blk.new _ _ _
    have HB : Hid (Below w.heap.size w (w.alloc (.cells #[.int .i64 8, .int .i64 a, .int .i64 b, .int .i64 c, .int .i64 0] 37))) := hid (by exact blBy)
    generalize w.alloc (.cells #[.int .i64 8, .int .i64 a, .int .i64 b, .int .i64 c, .int .i64 0] 37) = V at *
    refine wp_region_held_drew (S := fun W => ∀ i, W.cell? ⟨w.heap.size, i, none⟩ = #[.int .i64 8, .int .i64 a, .int .i64 b, .int .i64 c, .int .i64 0][i]?) (by kernel_rfl) ?_ (fun hHeld => ?_)
    · exact (Bs.kept (below_drew1 _)).cellF
    refine tkI 0 ?_
    try go_frame
    refine tkI 1 ?_
    try go_frame
    refine tkI 2 ?_
    try go_frame
    refine tkI 3 ?_
    try go_frame
    refine tkI 4 ?_
    try go_frame
    refine wpAnyH_ready (rs := [5]) (by kernel_rfl) (by simp) ?_
    refine AllReadyH.cons rfl (fun K hK => ?_) AllReadyH.nil
    go_simp
    refine hK.out _ _ ?_ (fun hHeld => ?_)
    · first | exact Bs.cellF | exact (Bs.kept (bl_drew (below_alloc _))).cellF | exact (Bs.kept (below_alloc _)).cellF
    clear hK K
    try go_frame
    refine wpAnyH_ready (rs := [6]) (by kernel_rfl) (by simp) ?_
    refine AllReadyH.cons rfl (fun K hK => ?_) AllReadyH.nil
    go_simp
    go_wp2_with (go_at_call 64; refine (HS.out _ _ ((Blk.new _ _ _).kept (below_drew1 _))).mono ?_; rintro e w1 ⟨rfl, hbx⟩; replace Bs := Bs.kept (below_trans (by first | exact Below.refl _ _ | exact below_drew1 _ | exact below_drewN _ _ | exact bl_drew (below_alloc _)) hbx); replace HB := hid (below_trans HB.out (below_trans (by first | exact Below.refl _ _ | exact below_drew1 _ | exact below_drewN _ _ | exact bl_drew (below_alloc _)) hbx)); clear hbx)
    refine hK.out _ _ ?_ (fun hHeld => ?_)
    · first | exact Bs.cellF | exact (Bs.kept (bl_drew (below_alloc _))).cellF | exact (Bs.kept (below_alloc _)).cellF
    clear hK K
    try go_frame
    refine tkI 7 ?_
    try go_frame
    refine tkI 8 ?_
    try go_frame
    refine tkU 9 ?_
    try go_frame
    refine tkU 10 ?_
    try go_frame
    refine tkU 11 ?_
    try go_frame
    refine tkI 12 ?_
    try go_frame
    refine tkI 13 ?_
    try go_frame
    refine wpAnyH_done (by kernel_rfl) ?_ _
    try simp only [Act.put, List.getElem_toArray, List.getElem_cons_succ, List.getElem_cons_zero, List.setIfInBounds_toArray, List.set_cons_zero, List.set_cons_succ]
    go_wp2
    go_ret
    exact ⟨rfl, HB.out⟩
  subst zc
  by_cases zb : b = 0
  case neg =>
    obtain rfl : v = false := by rw [HX.out]; simp [zb]
    have HS : Hid (∀ W zb, Blk W zb 3 (ints [a]) → Calls Tryd.prog 64 #[.int .i64 8, .slice (some ⟨zb, 0, none⟩) 1 1] W fun e w' => e = .returned (.agg #[.int .i64 8, .int .i64 a, .int .i64 0, .int .i64 0, .int .i64 0]) ∧ Below W.heap.size W w') := hid fun W zb hB => stepL W 8 [a] (by simp) zb hB
    have heq : ∀ W, (Op.equalIn 10000 37 (.agg #[.int .i64 8, .int .i64 a, .int .i64 b, .int .i64 0, .int .i64 0]) (.agg #[.int .i64 8, .int .i64 a, .int .i64 0, .int .i64 0, .int .i64 0])).run Tryd.prog W = .ok false W := fun W => by
      have := eqIN ⟨8, a, b, 0, 0⟩ ⟨8, a, 0, 0, 0⟩ W
      rw [show inB ⟨8, a, b, 0, 0⟩ ⟨8, a, 0, 0, 0⟩ = false by simp [inB, zb]] at this
      exact this
    clear HX zb hA hp hz
    go_enter Tryd.func50, Tryd.ntmps50
    go_wp2_with fail
    have Bs : Blk (w.alloc (.cells #[.int .i64 8, .int .i64 a, .int .i64 b, .int .i64 0, .int .i64 0] 37)) w.heap.size 37 #[.int .i64 8, .int .i64 a, .int .i64 b, .int .i64 0, .int .i64 0] := Blk.new _ _ _
    have HB : Hid (Below w.heap.size w (w.alloc (.cells #[.int .i64 8, .int .i64 a, .int .i64 b, .int .i64 0, .int .i64 0] 37))) := hid (by exact blBy)
    generalize w.alloc (.cells #[.int .i64 8, .int .i64 a, .int .i64 b, .int .i64 0, .int .i64 0] 37) = V at *
    refine wp_region_held_drew (S := fun W => ∀ i, W.cell? ⟨w.heap.size, i, none⟩ = #[.int .i64 8, .int .i64 a, .int .i64 b, .int .i64 0, .int .i64 0][i]?) (by kernel_rfl) ?_ (fun hHeld => ?_)
    · exact (Bs.kept (below_drew1 _)).cellF
    refine tkI 0 ?_
    try go_frame
    refine tkI 1 ?_
    try go_frame
    refine tkI 2 ?_
    try go_frame
    refine tkI 3 ?_
    try go_frame
    refine tkI 4 ?_
    try go_frame
    refine wpAnyH_ready (rs := [5]) (by kernel_rfl) (by simp) ?_
    refine AllReadyH.cons rfl (fun K hK => ?_) AllReadyH.nil
    go_simp
    refine hK.out _ _ ?_ (fun hHeld => ?_)
    · first | exact Bs.cellF | exact (Bs.kept (bl_drew (below_alloc _))).cellF | exact (Bs.kept (below_alloc _)).cellF
    clear hK K
    try go_frame
    refine wpAnyH_ready (rs := [6]) (by kernel_rfl) (by simp) ?_
    refine AllReadyH.cons rfl (fun K hK => ?_) AllReadyH.nil
    go_simp
    go_wp2_with (go_at_call 64; refine (HS.out _ _ ((Blk.new _ _ _).kept (below_drew1 _))).mono ?_; rintro e w1 ⟨rfl, hbx⟩; replace Bs := Bs.kept (below_trans (by first | exact Below.refl _ _ | exact below_drew1 _ | exact below_drewN _ _ | exact bl_drew (below_alloc _)) hbx); replace HB := hid (below_trans HB.out (below_trans (by first | exact Below.refl _ _ | exact below_drew1 _ | exact below_drewN _ _ | exact bl_drew (below_alloc _)) hbx)); clear hbx)
    refine hK.out _ _ ?_ (fun hHeld => ?_)
    · first | exact Bs.cellF | exact (Bs.kept (bl_drew (below_alloc _))).cellF | exact (Bs.kept (below_alloc _)).cellF
    clear hK K
    try go_frame
    refine tkI 7 ?_
    try go_frame
    refine tkI 8 ?_
    try go_frame
    refine tkU 9 ?_
    try go_frame
    refine tkU 10 ?_
    try go_frame
    refine tkU 11 ?_
    try go_frame
    refine tkI 12 ?_
    try go_frame
    refine tkI 13 ?_
    try go_frame
    refine wpAnyH_done (by kernel_rfl) ?_ _
    try simp only [Act.put, List.getElem_toArray, List.getElem_cons_succ, List.getElem_cons_zero, List.setIfInBounds_toArray, List.set_cons_zero, List.set_cons_succ]
    go_wp2
    go_ret
    exact ⟨rfl, HB.out⟩
  subst zb
  replace HX : Hid (v = (fdI a)) := hid (by rw [HX.out]; simp)
  have HS : Hid (∀ W zb, Blk W zb 3 (ints [a]) → Calls Tryd.prog 64 #[.int .i64 8, .slice (some ⟨zb, 0, none⟩) 1 1] W fun e w' => e = .returned (.agg #[.int .i64 8, .int .i64 a, .int .i64 0, .int .i64 0, .int .i64 0]) ∧ Below W.heap.size W w') := hid fun W zb hB => stepL W 8 [a] (by simp) zb hB
  have heq : ∀ W, (Op.equalIn 10000 37 (.agg #[.int .i64 8, .int .i64 a, .int .i64 0, .int .i64 0, .int .i64 0]) (.agg #[.int .i64 8, .int .i64 a, .int .i64 0, .int .i64 0, .int .i64 0])).run Tryd.prog W = .ok true W := fun W => by
    have := eqIN ⟨8, a, 0, 0, 0⟩ ⟨8, a, 0, 0, 0⟩ W
    rw [(inB_iff _ _).2 rfl] at this
    exact this
  have H0 := hid (fun W => isFieldP W a)
  cases s0 : fdI a with
  | false =>
    rw [s0] at H0
    obtain rfl : v = false := by rw [HX.out]; simp [s0]
    clear HX s0 hA hp hz
    go_enter Tryd.func50, Tryd.ntmps50
    go_wp2_with fail
    have Bs : Blk (w.alloc (.cells #[.int .i64 8, .int .i64 a, .int .i64 0, .int .i64 0, .int .i64 0] 37)) w.heap.size 37 #[.int .i64 8, .int .i64 a, .int .i64 0, .int .i64 0, .int .i64 0] := Blk.new _ _ _
    have HB : Hid (Below w.heap.size w (w.alloc (.cells #[.int .i64 8, .int .i64 a, .int .i64 0, .int .i64 0, .int .i64 0] 37))) := hid (by exact blBy)
    generalize w.alloc (.cells #[.int .i64 8, .int .i64 a, .int .i64 0, .int .i64 0, .int .i64 0] 37) = V at *
    refine wp_region_held_drew (S := fun W => ∀ i, W.cell? ⟨w.heap.size, i, none⟩ = #[.int .i64 8, .int .i64 a, .int .i64 0, .int .i64 0, .int .i64 0][i]?) (by kernel_rfl) ?_ (fun hHeld => ?_)
    · exact (Bs.kept (below_drew1 _)).cellF
    refine tkI 0 ?_
    try go_frame
    refine tkI 1 ?_
    try go_frame
    refine tkI 2 ?_
    try go_frame
    refine tkI 3 ?_
    try go_frame
    refine tkI 4 ?_
    try go_frame
    refine wpAnyH_ready (rs := [5]) (by kernel_rfl) (by simp) ?_
    refine AllReadyH.cons rfl (fun K hK => ?_) AllReadyH.nil
    go_simp
    refine hK.out _ _ ?_ (fun hHeld => ?_)
    · first | exact Bs.cellF | exact (Bs.kept (bl_drew (below_alloc _))).cellF | exact (Bs.kept (below_alloc _)).cellF
    clear hK K
    try go_frame
    refine wpAnyH_ready (rs := [6]) (by kernel_rfl) (by simp) ?_
    refine AllReadyH.cons rfl (fun K hK => ?_) AllReadyH.nil
    go_simp
    go_wp2_with (go_at_call 64; refine (HS.out _ _ ((Blk.new _ _ _).kept (below_drew1 _))).mono ?_; rintro e w1 ⟨rfl, hbx⟩; replace Bs := Bs.kept (below_trans (by first | exact Below.refl _ _ | exact below_drew1 _ | exact below_drewN _ _ | exact bl_drew (below_alloc _)) hbx); replace HB := hid (below_trans HB.out (below_trans (by first | exact Below.refl _ _ | exact below_drew1 _ | exact below_drewN _ _ | exact bl_drew (below_alloc _)) hbx)); clear hbx)
    refine hK.out _ _ ?_ (fun hHeld => ?_)
    · first | exact Bs.cellF | exact (Bs.kept (bl_drew (below_alloc _))).cellF | exact (Bs.kept (below_alloc _)).cellF
    clear hK K
    try go_frame
    refine tkI 7 ?_
    try go_frame
    refine tkI 8 ?_
    try go_frame
    refine tkI 9 ?_
    try go_frame
    refine tkI 10 ?_
    try go_frame
    refine wpAnyH_ready (rs := [11]) (by kernel_rfl) (by simp) ?_
    refine AllReadyH.cons rfl (fun K hK => ?_) AllReadyH.nil
    go_simp
    go_wp2_with (go_at_call 67; refine (H0.out _).mono ?_; rintro e w2 ⟨rfl, rfl⟩)
    refine hK.out _ _ ?_ (fun hHeld => ?_)
    · first | exact Bs.cellF | exact (Bs.kept (bl_drew (below_alloc _))).cellF | exact (Bs.kept (below_alloc _)).cellF
    clear hK K
    try go_frame
    refine tkI 12 ?_
    try go_frame
    refine tkI 13 ?_
    try go_frame
    refine wpAnyH_done (by kernel_rfl) ?_ _
    try simp only [Act.put, List.getElem_toArray, List.getElem_cons_succ, List.getElem_cons_zero, List.setIfInBounds_toArray, List.set_cons_zero, List.set_cons_succ]
    go_wp2
    go_ret
    exact ⟨rfl, HB.out⟩
  | true =>
  rw [s0] at H0
  replace HX : Hid (v = (true)) := hid (by rw [HX.out]; simp [s0])
  clear s0
  obtain rfl : v = true := by first | exact HX.out | (rw [HX.out]; simp)
  clear HX hA hp hz
  go_enter Tryd.func50, Tryd.ntmps50
  go_wp2_with fail
  have Bs : Blk (w.alloc (.cells #[.int .i64 8, .int .i64 a, .int .i64 0, .int .i64 0, .int .i64 0] 37)) w.heap.size 37 #[.int .i64 8, .int .i64 a, .int .i64 0, .int .i64 0, .int .i64 0] := Blk.new _ _ _
  have HB : Hid (Below w.heap.size w (w.alloc (.cells #[.int .i64 8, .int .i64 a, .int .i64 0, .int .i64 0, .int .i64 0] 37))) := hid (by exact blBy)
  generalize w.alloc (.cells #[.int .i64 8, .int .i64 a, .int .i64 0, .int .i64 0, .int .i64 0] 37) = V at *
  refine wp_region_held_drew (S := fun W => ∀ i, W.cell? ⟨w.heap.size, i, none⟩ = #[.int .i64 8, .int .i64 a, .int .i64 0, .int .i64 0, .int .i64 0][i]?) (by kernel_rfl) ?_ (fun hHeld => ?_)
  · exact (Bs.kept (below_drew1 _)).cellF
  refine tkI 0 ?_
  try go_frame
  refine tkI 1 ?_
  try go_frame
  refine tkI 2 ?_
  try go_frame
  refine tkI 3 ?_
  try go_frame
  refine tkI 4 ?_
  try go_frame
  refine wpAnyH_ready (rs := [5]) (by kernel_rfl) (by simp) ?_
  refine AllReadyH.cons rfl (fun K hK => ?_) AllReadyH.nil
  go_simp
  refine hK.out _ _ ?_ (fun hHeld => ?_)
  · first | exact Bs.cellF | exact (Bs.kept (bl_drew (below_alloc _))).cellF | exact (Bs.kept (below_alloc _)).cellF
  clear hK K
  try go_frame
  refine wpAnyH_ready (rs := [6]) (by kernel_rfl) (by simp) ?_
  refine AllReadyH.cons rfl (fun K hK => ?_) AllReadyH.nil
  go_simp
  go_wp2_with (go_at_call 64; refine (HS.out _ _ ((Blk.new _ _ _).kept (below_drew1 _))).mono ?_; rintro e w1 ⟨rfl, hbx⟩; replace Bs := Bs.kept (below_trans (by first | exact Below.refl _ _ | exact below_drew1 _ | exact below_drewN _ _ | exact bl_drew (below_alloc _)) hbx); replace HB := hid (below_trans HB.out (below_trans (by first | exact Below.refl _ _ | exact below_drew1 _ | exact below_drewN _ _ | exact bl_drew (below_alloc _)) hbx)); clear hbx)
  refine hK.out _ _ ?_ (fun hHeld => ?_)
  · first | exact Bs.cellF | exact (Bs.kept (bl_drew (below_alloc _))).cellF | exact (Bs.kept (below_alloc _)).cellF
  clear hK K
  try go_frame
  refine tkI 7 ?_
  try go_frame
  refine tkI 8 ?_
  try go_frame
  refine tkI 9 ?_
  try go_frame
  refine tkI 10 ?_
  try go_frame
  refine wpAnyH_ready (rs := [11]) (by kernel_rfl) (by simp) ?_
  refine AllReadyH.cons rfl (fun K hK => ?_) AllReadyH.nil
  go_simp
  go_wp2_with (go_at_call 67; refine (H0.out _).mono ?_; rintro e w2 ⟨rfl, rfl⟩)
  refine hK.out _ _ ?_ (fun hHeld => ?_)
  · first | exact Bs.cellF | exact (Bs.kept (bl_drew (below_alloc _))).cellF | exact (Bs.kept (below_alloc _)).cellF
  clear hK K
  try go_frame
  refine tkI 12 ?_
  try go_frame
  refine tkI 13 ?_
  try go_frame
  refine wpAnyH_done (by kernel_rfl) ?_ _
  try simp only [Act.put, List.getElem_toArray, List.getElem_cons_succ, List.getElem_cons_zero, List.setIfInBounds_toArray, List.set_cons_zero, List.set_cons_succ]
  go_wp2
  go_ret
  exact ⟨rfl, HB.out⟩
end Go.Proofs.YtpndejibjiojbaaDoor
