/-
  The program's: symbols of a Row, both ways.
  The program's: is a step one that reads, or writes, at its place? (a part)
-/
import Derived.Test.YtpndejibjiojbaaDoorCVP2
import Derived.Maps.RangeWalk
namespace Go.Proofs.YtpndejibjiojbaaDoor
open Go.RowKit
set_option maxRecDepth 1000000
set_option linter.unusedVariables false
set_option linter.unusedSimpArgs false
set_option maxHeartbeats 1000000
def rsI (bs : List BV) (kind num : Int) : Bool := if kind = 16 then enI bs (num - 1) else decide (num = 0)
theorem areRowSymbolsP (w : World) (bs : List BV) (ba : Option Addr) (bc : Nat) (h : PgR w (.slice ba bs.length bc) bs) (hz : ∀ x ∈ bs, x.k.dec.length ≤ 140737488355328 ∧ x.k.enc.length ≤ 140737488355328) (kind num : Int) (hn : I64 num) : Calls Tryd.prog 70 #[.slice ba bs.length bc, .int .i64 kind, .int .i64 num] w (BoA w (rsI bs kind num)) := by
  obtain ⟨_, _, e, hl⟩ := rowS_sl h.row
  clear e
  by_cases k16 : kind = 16
  · have e : rsI bs kind num = enI bs (num - 1) := by unfold rsI; rw [if_pos k16]
    rw [e]
    have q16 : (kind == 16) = true := by simp [k16]
    obtain ⟨z, ez, ew⟩ : ∃ z, wrap64 (num - 1) = z ∧ enI bs (num - 1) = enI bs z := by
      by_cases hm : num = -9223372036854775808
      · exact ⟨9223372036854775807, by rw [hm]; unfold wrap64; omega, by rw [enI_lo (by omega), enI_hi (by omega)]⟩
      · exact ⟨num - 1, by have := hn.1; have := hn.2; unfold wrap64; omega, rfl⟩
    rw [ew]
    have HE := hid (fun W hW => isEnumP W bs ba bc (h.kept (w' := W) hW) hz z)
    generalize enI bs z = v at *
    clear e k16 h hz ew hn hl
    go_enter Tryd.func70, Tryd.ntmps70
    go_wp2_with (first | (go_at_call 66; refine (HE.out _ (by first | exact Below.refl _ _ | exact blBy)).mono ?_; rintro e w1 ⟨rfl, hb⟩))
    go_ret
    exact ⟨rfl, by first | exact hb | exact bl_then (by exact blBy) hb⟩
  · have e : rsI bs kind num = (num == 0) := by unfold rsI; rw [if_neg k16]; by_cases h : num = 0 <;> simp [h]
    rw [e]
    have q16 : (kind == 16) = false := by simpa using k16
    clear e k16 h hz hn hl
    go_enter Tryd.func70, Tryd.ntmps70
    go_wp2
    go_ret
    exact ⟨ret_bool (by first | rfl | simp), by first | exact Below.refl _ _ | exact blBy⟩
set_option maxHeartbeats 20000000
theorem wr_9 (w : World) (bs : List BV) (ba : Option Addr) (bc : Nat) (hp : PgR w (.slice ba bs.length bc) bs) (hz : ∀ x ∈ bs, x.k.dec.length ≤ 140737488355328 ∧ x.k.enc.length ≤ 140737488355328) (caps : Array Value) (ah : Int → Bool) (hA : ∀ tg W, Below w.heap.size w W → Calls Tryd.prog 49 (#[.int .i64 tg] ++ caps) W (BoA W (ah tg))) (a b c d : Int) : Calls Tryd.prog 50 #[.slice ba bs.length bc, .agg #[.int .i64 9, .int .i64 a, .int .i64 b, .int .i64 c, .int .i64 d], .func (.func 49) #[] caps] w (BoA w (decide (d = 0) && (decide (c = 0) && (decide (b = 0) && (fdI a))))) := by
  have hgd := gdIN
  obtain ⟨v, HX⟩ : ∃ v, Hid (v = (decide (d = 0) && (decide (c = 0) && (decide (b = 0) && (fdI a))))) := ⟨_, hid rfl⟩
  rw [← HX.out]
  by_cases zd : d = 0
  case neg =>
    obtain rfl : v = false := by rw [HX.out]; simp [zd]
    have HS : Hid (∀ W zb, Blk W zb 3 (ints [a]) → Calls Tryd.prog 64 #[.int .i64 9, .slice (some ⟨zb, 0, none⟩) 1 1] W fun e w' => e = .returned (.agg #[.int .i64 9, .int .i64 a, .int .i64 0, .int .i64 0, .int .i64 0]) ∧ Below W.heap.size W w') := hid fun W zb hB => stepL W 9 [a] (by simp) zb hB
    have heq : ∀ W, (Op.equalIn 10000 37 (.agg #[.int .i64 9, .int .i64 a, .int .i64 b, .int .i64 c, .int .i64 d]) (.agg #[.int .i64 9, .int .i64 a, .int .i64 0, .int .i64 0, .int .i64 0])).run Tryd.prog W = .ok false W := fun W => by
      have := eqIN ⟨9, a, b, c, d⟩ ⟨9, a, 0, 0, 0⟩ W
      rw [show inB ⟨9, a, b, c, d⟩ ⟨9, a, 0, 0, 0⟩ = false by simp [inB, zd]] at this
      exact this
    clear HX zd hA hp hz
    go_enter Tryd.func50, Tryd.ntmps50
    go_wp2_with fail
    have Bs : Blk (w.alloc (.cells #[.int .i64 9, .int .i64 a, .int .i64 b, .int .i64 c, .int .i64 d] 37)) w.heap.size 37 #[.int .i64 9, .int .i64 a, .int .i64 b, .int .i64 c, .int .i64 d] := Blk.new _ _ _
    have HB : Hid (Below w.heap.size w (w.alloc (.cells #[.int .i64 9, .int .i64 a, .int .i64 b, .int .i64 c, .int .i64 d] 37))) := hid (by exact blBy)
    generalize w.alloc (.cells #[.int .i64 9, .int .i64 a, .int .i64 b, .int .i64 c, .int .i64 d] 37) = V at *
    refine wp_region_held_drew (S := fun W => ∀ i, W.cell? ⟨w.heap.size, i, none⟩ = #[.int .i64 9, .int .i64 a, .int .i64 b, .int .i64 c, .int .i64 d][i]?) (by kernel_rfl) ?_ (fun hHeld => ?_)
    · exact (Bs.kept (below_drew1 _)).cellF
    refine tkJ 0 ?_
    try go_frame
    refine tkJ 1 ?_
    try go_frame
    refine tkJ 2 ?_
    try go_frame
    refine tkJ 3 ?_
    try go_frame
    refine tkJ 4 ?_
    try go_frame
    refine wpAnyH_ready (rs := [5]) (by kernel_rfl) (by simp) ?_
    refine AllReadyH.cons rfl (fun K hK => ?_) AllReadyH.nil
    go_simp
    refine hK.out _ _ ?_ (fun hHeld => ?_)
    · first | exact Bs.cellF | exact (Bs.kept (bl_drew (below_alloc _))).cellF | exact (Bs.kept (below_alloc _)).cellF
    clear hK K
    try go_frame
    refine wpAnyH_ready (rs := [6]) (by kernel_rfl) (by simp) ?_
    refine AllReadyH.cons rfl (fun K hK => ?_) AllReadyH.nil
    go_simp
    go_wp2_with (go_at_call 64; refine (HS.out _ _ ((Blk.new _ _ _).kept (below_drew1 _))).mono ?_; rintro e w1 ⟨rfl, hbx⟩; replace Bs := Bs.kept (below_trans (by first | exact Below.refl _ _ | exact below_drew1 _ | exact below_drewN _ _ | exact bl_drew (below_alloc _)) hbx); replace HB := hid (below_trans HB.out (below_trans (by first | exact Below.refl _ _ | exact below_drew1 _ | exact below_drewN _ _ | exact bl_drew (below_alloc _)) hbx)); clear hbx)
    refine hK.out _ _ ?_ (fun hHeld => ?_)
    · first | exact Bs.cellF | exact (Bs.kept (bl_drew (below_alloc _))).cellF | exact (Bs.kept (below_alloc _)).cellF
    clear hK K
    try go_frame
    refine tkJ 7 ?_
    try go_frame
    refine tkJ 8 ?_
    try go_frame
    refine tkU 9 ?_
    try go_frame
    refine tkU 10 ?_
    try go_frame
    refine tkU 11 ?_
    try go_frame
    refine tkJ 12 ?_
    try go_frame
    refine tkJ 13 ?_
    try go_frame
    refine wpAnyH_done (by kernel_rfl) ?_ _
    try simp only [Act.put, List.getElem_toArray, List.getElem_cons_succ, List.getElem_cons_zero, List.setIfInBounds_toArray, List.set_cons_zero, List.set_cons_succ]
    go_wp2
    go_ret
    exact ⟨rfl, HB.out⟩
  subst zd
  by_cases zc : c = 0
  case neg =>
    obtain rfl : v = false := by rw [HX.out]; simp [zc]
    have HS : Hid (∀ W zb, Blk W zb 3 (ints [a]) → Calls Tryd.prog 64 #[.int .i64 9, .slice (some ⟨zb, 0, none⟩) 1 1] W fun e w' => e = .returned (.agg #[.int .i64 9, .int .i64 a, .int .i64 0, .int .i64 0, .int .i64 0]) ∧ Below W.heap.size W w') := hid fun W zb hB => stepL W 9 [a] (by simp) zb hB
    have heq : ∀ W, (Op.equalIn 10000 37 (.agg #[.int .i64 9, .int .i64 a, .int .i64 b, .int .i64 c, .int .i64 0]) (.agg #[.int .i64 9, .int .i64 a, .int .i64 0, .int .i64 0, .int .i64 0])).run Tryd.prog W = .ok false W := fun W => by
      have := eqIN ⟨9, a, b, c, 0⟩ ⟨9, a, 0, 0, 0⟩ W
      rw [show inB ⟨9, a, b, c, 0⟩ ⟨9, a, 0, 0, 0⟩ = false by simp [inB, zc]] at this
      exact this
    clear HX zc hA hp hz
    go_enter Tryd.func50, Tryd.ntmps50
    go_wp2_with fail
    have Bs : Blk (w.alloc (.cells #[.int .i64 9, .int .i64 a, .int .i64 b, .int .i64 c, .int .i64 0] 37)) w.heap.size 37 #[.int .i64 9, .int .i64 a, .int .i64 b, .int .i64 c, .int .i64 0] := Blk.new _ _ _
    have HB : Hid (Below w.heap.size w (w.alloc (.cells #[.int .i64 9, .int .i64 a, .int .i64 b, .int .i64 c, .int .i64 0] 37))) := hid (by exact blBy)
    generalize w.alloc (.cells #[.int .i64 9, .int .i64 a, .int .i64 b, .int .i64 c, .int .i64 0] 37) = V at *
    refine wp_region_held_drew (S := fun W => ∀ i, W.cell? ⟨w.heap.size, i, none⟩ = #[.int .i64 9, .int .i64 a, .int .i64 b, .int .i64 c, .int .i64 0][i]?) (by kernel_rfl) ?_ (fun hHeld => ?_)
    · exact (Bs.kept (below_drew1 _)).cellF
    refine tkJ 0 ?_
    try go_frame
    refine tkJ 1 ?_
    try go_frame
    refine tkJ 2 ?_
    try go_frame
    refine tkJ 3 ?_
    try go_frame
    refine tkJ 4 ?_
    try go_frame
    refine wpAnyH_ready (rs := [5]) (by kernel_rfl) (by simp) ?_
    refine AllReadyH.cons rfl (fun K hK => ?_) AllReadyH.nil
    go_simp
    refine hK.out _ _ ?_ (fun hHeld => ?_)
    · first | exact Bs.cellF | exact (Bs.kept (bl_drew (below_alloc _))).cellF | exact (Bs.kept (below_alloc _)).cellF
    clear hK K
    try go_frame
    refine wpAnyH_ready (rs := [6]) (by kernel_rfl) (by simp) ?_
    refine AllReadyH.cons rfl (fun K hK => ?_) AllReadyH.nil
    go_simp
    go_wp2_with (go_at_call 64; refine (HS.out _ _ ((Blk.new _ _ _).kept (below_drew1 _))).mono ?_; rintro e w1 ⟨rfl, hbx⟩; replace Bs := Bs.kept (below_trans (by first | exact Below.refl _ _ | exact below_drew1 _ | exact below_drewN _ _ | exact bl_drew (below_alloc _)) hbx); replace HB := hid (below_trans HB.out (below_trans (by first | exact Below.refl _ _ | exact below_drew1 _ | exact below_drewN _ _ | exact bl_drew (below_alloc _)) hbx)); clear hbx)
    refine hK.out _ _ ?_ (fun hHeld => ?_)
    · first | exact Bs.cellF | exact (Bs.kept (bl_drew (below_alloc _))).cellF | exact (Bs.kept (below_alloc _)).cellF
    clear hK K
    try go_frame
    refine tkJ 7 ?_
    try go_frame
    refine tkJ 8 ?_
    try go_frame
    refine tkU 9 ?_
    try go_frame
    refine tkU 10 ?_
    try go_frame
    refine tkU 11 ?_
    try go_frame
    refine tkJ 12 ?_
    try go_frame
    refine tkJ 13 ?_
    try go_frame
    refine wpAnyH_done (by kernel_rfl) ?_ _
    try simp only [Act.put, List.getElem_toArray, List.getElem_cons_succ, List.getElem_cons_zero, List.setIfInBounds_toArray, List.set_cons_zero, List.set_cons_succ]
    go_wp2
    go_ret
    exact ⟨rfl, HB.out⟩
  subst zc
  by_cases zb : b = 0
  case neg =>
    obtain rfl : v = false := by rw [HX.out]; simp [zb]
    have HS : Hid (∀ W zb, Blk W zb 3 (ints [a]) → Calls Tryd.prog 64 #[.int .i64 9, .slice (some ⟨zb, 0, none⟩) 1 1] W fun e w' => e = .returned (.agg #[.int .i64 9, .int .i64 a, .int .i64 0, .int .i64 0, .int .i64 0]) ∧ Below W.heap.size W w') := hid fun W zb hB => stepL W 9 [a] (by simp) zb hB
    have heq : ∀ W, (Op.equalIn 10000 37 (.agg #[.int .i64 9, .int .i64 a, .int .i64 b, .int .i64 0, .int .i64 0]) (.agg #[.int .i64 9, .int .i64 a, .int .i64 0, .int .i64 0, .int .i64 0])).run Tryd.prog W = .ok false W := fun W => by
      have := eqIN ⟨9, a, b, 0, 0⟩ ⟨9, a, 0, 0, 0⟩ W
      rw [show inB ⟨9, a, b, 0, 0⟩ ⟨9, a, 0, 0, 0⟩ = false by simp [inB, zb]] at this
      exact this
    clear HX zb hA hp hz
    go_enter Tryd.func50, Tryd.ntmps50
    go_wp2_with fail
    have Bs : Blk (w.alloc (.cells #[.int .i64 9, .int .i64 a, .int .i64 b, .int .i64 0, .int .i64 0] 37)) w.heap.size 37 #[.int .i64 9, .int .i64 a, .int .i64 b, .int .i64 0, .int .i64 0] := Blk.new _ _ _
    have HB : Hid (Below w.heap.size w (w.alloc (.cells #[.int .i64 9, .int .i64 a, .int .i64 b, .int .i64 0, .int .i64 0] 37))) := hid (by exact blBy)
    generalize w.alloc (.cells #[.int .i64 9, .int .i64 a, .int .i64 b, .int .i64 0, .int .i64 0] 37) = V at *
    refine wp_region_held_drew (S := fun W => ∀ i, W.cell? ⟨w.heap.size, i, none⟩ = #[.int .i64 9, .int .i64 a, .int .i64 b, .int .i64 0, .int .i64 0][i]?) (by kernel_rfl) ?_ (fun hHeld => ?_)
    · exact (Bs.kept (below_drew1 _)).cellF
    refine tkJ 0 ?_
    try go_frame
    refine tkJ 1 ?_
    try go_frame
    refine tkJ 2 ?_
    try go_frame
    refine tkJ 3 ?_
    try go_frame
    refine tkJ 4 ?_
    try go_frame
    refine wpAnyH_ready (rs := [5]) (by kernel_rfl) (by simp) ?_
    refine AllReadyH.cons rfl (fun K hK => ?_) AllReadyH.nil
    go_simp
    refine hK.out _ _ ?_ (fun hHeld => ?_)
    · first | exact Bs.cellF | exact (Bs.kept (bl_drew (below_alloc _))).cellF | exact (Bs.kept (below_alloc _)).cellF
    clear hK K
    try go_frame
    refine wpAnyH_ready (rs := [6]) (by kernel_rfl) (by simp) ?_
    refine AllReadyH.cons rfl (fun K hK => ?_) AllReadyH.nil
    go_simp
    go_wp2_with (go_at_call 64; refine (HS.out _ _ ((Blk.new _ _ _).kept (below_drew1 _))).mono ?_; rintro e w1 ⟨rfl, hbx⟩; replace Bs := Bs.kept (below_trans (by first | exact Below.refl _ _ | exact below_drew1 _ | exact below_drewN _ _ | exact bl_drew (below_alloc _)) hbx); replace HB := hid (below_trans HB.out (below_trans (by first | exact Below.refl _ _ | exact below_drew1 _ | exact below_drewN _ _ | exact bl_drew (below_alloc _)) hbx)); clear hbx)
    refine hK.out _ _ ?_ (fun hHeld => ?_)
    · first | exact Bs.cellF | exact (Bs.kept (bl_drew (below_alloc _))).cellF | exact (Bs.kept (below_alloc _)).cellF
    clear hK K
    try go_frame
    refine tkJ 7 ?_
    try go_frame
    refine tkJ 8 ?_
    try go_frame
    refine tkU 9 ?_
    try go_frame
    refine tkU 10 ?_
    try go_frame
    refine tkU 11 ?_
    try go_frame
    refine tkJ 12 ?_
    try go_frame
    refine tkJ 13 ?_
    try go_frame
    refine wpAnyH_done (by kernel_rfl) ?_ _
    try simp only [Act.put, List.getElem_toArray, List.getElem_cons_succ, List.getElem_cons_zero, List.setIfInBounds_toArray, List.set_cons_zero, List.set_cons_succ]
    go_wp2
    go_ret
    exact ⟨rfl, HB.out⟩
  subst zb
  replace HX : Hid (v = (fdI a)) := hid (by rw [HX.out]; simp)
  have HS : Hid (∀ W zb, Blk W zb 3 (ints [a]) → Calls Tryd.prog 64 #[.int .i64 9, .slice (some ⟨zb, 0, none⟩) 1 1] W fun e w' => e = .returned (.agg #[.int .i64 9, .int .i64 a, .int .i64 0, .int .i64 0, .int .i64 0]) ∧ Below W.heap.size W w') := hid fun W zb hB => stepL W 9 [a] (by simp) zb hB
  have heq : ∀ W, (Op.equalIn 10000 37 (.agg #[.int .i64 9, .int .i64 a, .int .i64 0, .int .i64 0, .int .i64 0]) (.agg #[.int .i64 9, .int .i64 a, .int .i64 0, .int .i64 0, .int .i64 0])).run Tryd.prog W = .ok true W := fun W => by
    have := eqIN ⟨9, a, 0, 0, 0⟩ ⟨9, a, 0, 0, 0⟩ W
    rw [(inB_iff _ _).2 rfl] at this
    exact this
  have H0 := hid (fun W => isFieldP W a)
  cases s0 : fdI a with
  | false =>
    rw [s0] at H0
    obtain rfl : v = false := by rw [HX.out]; simp [s0]
    clear HX s0 hA hp hz
    go_enter Tryd.func50, Tryd.ntmps50
    go_wp2_with fail
    have Bs : Blk (w.alloc (.cells #[.int .i64 9, .int .i64 a, .int .i64 0, .int .i64 0, .int .i64 0] 37)) w.heap.size 37 #[.int .i64 9, .int .i64 a, .int .i64 0, .int .i64 0, .int .i64 0] := Blk.new _ _ _
    have HB : Hid (Below w.heap.size w (w.alloc (.cells #[.int .i64 9, .int .i64 a, .int .i64 0, .int .i64 0, .int .i64 0] 37))) := hid (by exact blBy)
    generalize w.alloc (.cells #[.int .i64 9, .int .i64 a, .int .i64 0, .int .i64 0, .int .i64 0] 37) = V at *
    refine wp_region_held_drew (S := fun W => ∀ i, W.cell? ⟨w.heap.size, i, none⟩ = #[.int .i64 9, .int .i64 a, .int .i64 0, .int .i64 0, .int .i64 0][i]?) (by kernel_rfl) ?_ (fun hHeld => ?_)
    · exact (Bs.kept (below_drew1 _)).cellF
    refine tkJ 0 ?_
    try go_frame
    refine tkJ 1 ?_
    try go_frame
    refine tkJ 2 ?_
    try go_frame
    refine tkJ 3 ?_
    try go_frame
    refine tkJ 4 ?_
    try go_frame
    refine wpAnyH_ready (rs := [5]) (by kernel_rfl) (by simp) ?_
    refine AllReadyH.cons rfl (fun K hK => ?_) AllReadyH.nil
    go_simp
    refine hK.out _ _ ?_ (fun hHeld => ?_)
    · first | exact Bs.cellF | exact (Bs.kept (bl_drew (below_alloc _))).cellF | exact (Bs.kept (below_alloc _)).cellF
    clear hK K
    try go_frame
    refine wpAnyH_ready (rs := [6]) (by kernel_rfl) (by simp) ?_
    refine AllReadyH.cons rfl (fun K hK => ?_) AllReadyH.nil
    go_simp
    go_wp2_with (go_at_call 64; refine (HS.out _ _ ((Blk.new _ _ _).kept (below_drew1 _))).mono ?_; rintro e w1 ⟨rfl, hbx⟩; replace Bs := Bs.kept (below_trans (by first | exact Below.refl _ _ | exact below_drew1 _ | exact below_drewN _ _ | exact bl_drew (below_alloc _)) hbx); replace HB := hid (below_trans HB.out (below_trans (by first | exact Below.refl _ _ | exact below_drew1 _ | exact below_drewN _ _ | exact bl_drew (below_alloc _)) hbx)); clear hbx)
    refine hK.out _ _ ?_ (fun hHeld => ?_)
    · first | exact Bs.cellF | exact (Bs.kept (bl_drew (below_alloc _))).cellF | exact (Bs.kept (below_alloc _)).cellF
    clear hK K
    try go_frame
    refine tkJ 7 ?_
    try go_frame
    refine tkJ 8 ?_
    try go_frame
    refine tkJ 9 ?_
    try go_frame
    refine tkJ 10 ?_
    try go_frame
    refine wpAnyH_ready (rs := [11]) (by kernel_rfl) (by simp) ?_
    refine AllReadyH.cons rfl (fun K hK => ?_) AllReadyH.nil
    go_simp
    go_wp2_with (go_at_call 67; refine (H0.out _).mono ?_; rintro e w2 ⟨rfl, rfl⟩)
    refine hK.out _ _ ?_ (fun hHeld => ?_)
    · first | exact Bs.cellF | exact (Bs.kept (bl_drew (below_alloc _))).cellF | exact (Bs.kept (below_alloc _)).cellF
    clear hK K
    try go_frame
    refine tkJ 12 ?_
    try go_frame
    refine tkJ 13 ?_
    try go_frame
    refine wpAnyH_done (by kernel_rfl) ?_ _
    try simp only [Act.put, List.getElem_toArray, List.getElem_cons_succ, List.getElem_cons_zero, List.setIfInBounds_toArray, List.set_cons_zero, List.set_cons_succ]
    go_wp2
    go_ret
    exact ⟨rfl, HB.out⟩
  | true =>
  rw [s0] at H0
  replace HX : Hid (v = (true)) := hid (by rw [HX.out]; simp [s0])
  clear s0
  obtain rfl : v = true := by first | exact HX.out | (rw [HX.out]; simp)
  clear HX hA hp hz
  go_enter Tryd.func50, Tryd.ntmps50
  go_wp2_with fail
  have Bs : Blk (w.alloc (.cells #[.int .i64 9, .int .i64 a, .int .i64 0, .int .i64 0, .int .i64 0] 37)) w.heap.size 37 #[.int .i64 9, .int .i64 a, .int .i64 0, .int .i64 0, .int .i64 0] := Blk.new _ _ _
  have HB : Hid (Below w.heap.size w (w.alloc (.cells #[.int .i64 9, .int .i64 a, .int .i64 0, .int .i64 0, .int .i64 0] 37))) := hid (by exact blBy)
  generalize w.alloc (.cells #[.int .i64 9, .int .i64 a, .int .i64 0, .int .i64 0, .int .i64 0] 37) = V at *
  refine wp_region_held_drew (S := fun W => ∀ i, W.cell? ⟨w.heap.size, i, none⟩ = #[.int .i64 9, .int .i64 a, .int .i64 0, .int .i64 0, .int .i64 0][i]?) (by kernel_rfl) ?_ (fun hHeld => ?_)
  · exact (Bs.kept (below_drew1 _)).cellF
  refine tkJ 0 ?_
  try go_frame
  refine tkJ 1 ?_
  try go_frame
  refine tkJ 2 ?_
  try go_frame
  refine tkJ 3 ?_
  try go_frame
  refine tkJ 4 ?_
  try go_frame
  refine wpAnyH_ready (rs := [5]) (by kernel_rfl) (by simp) ?_
  refine AllReadyH.cons rfl (fun K hK => ?_) AllReadyH.nil
  go_simp
  refine hK.out _ _ ?_ (fun hHeld => ?_)
  · first | exact Bs.cellF | exact (Bs.kept (bl_drew (below_alloc _))).cellF | exact (Bs.kept (below_alloc _)).cellF
  clear hK K
  try go_frame
  refine wpAnyH_ready (rs := [6]) (by kernel_rfl) (by simp) ?_
  refine AllReadyH.cons rfl (fun K hK => ?_) AllReadyH.nil
  go_simp
  go_wp2_with (go_at_call 64; refine (HS.out _ _ ((Blk.new _ _ _).kept (below_drew1 _))).mono ?_; rintro e w1 ⟨rfl, hbx⟩; replace Bs := Bs.kept (below_trans (by first | exact Below.refl _ _ | exact below_drew1 _ | exact below_drewN _ _ | exact bl_drew (below_alloc _)) hbx); replace HB := hid (below_trans HB.out (below_trans (by first | exact Below.refl _ _ | exact below_drew1 _ | exact below_drewN _ _ | exact bl_drew (below_alloc _)) hbx)); clear hbx)
  refine hK.out _ _ ?_ (fun hHeld => ?_)
  · first | exact Bs.cellF | exact (Bs.kept (bl_drew (below_alloc _))).cellF | exact (Bs.kept (below_alloc _)).cellF
  clear hK K
  try go_frame
  refine tkJ 7 ?_
  try go_frame
  refine tkJ 8 ?_
  try go_frame
  refine tkJ 9 ?_
  try go_frame
  refine tkJ 10 ?_
  try go_frame
  refine wpAnyH_ready (rs := [11]) (by kernel_rfl) (by simp) ?_
  refine AllReadyH.cons rfl (fun K hK => ?_) AllReadyH.nil
  go_simp
  go_wp2_with (go_at_call 67; refine (H0.out _).mono ?_; rintro e w2 ⟨rfl, rfl⟩)
  refine hK.out _ _ ?_ (fun hHeld => ?_)
  · first | exact Bs.cellF | exact (Bs.kept (bl_drew (below_alloc _))).cellF | exact (Bs.kept (below_alloc _)).cellF
  clear hK K
  try go_frame
  refine tkJ 12 ?_
  try go_frame
  refine tkJ 13 ?_
  try go_frame
  refine wpAnyH_done (by kernel_rfl) ?_ _
  try simp only [Act.put, List.getElem_toArray, List.getElem_cons_succ, List.getElem_cons_zero, List.setIfInBounds_toArray, List.set_cons_zero, List.set_cons_succ]
  go_wp2
  go_ret
  exact ⟨rfl, HB.out⟩
theorem wr_10 (w : World) (bs : List BV) (ba : Option Addr) (bc : Nat) (hp : PgR w (.slice ba bs.length bc) bs) (hz : ∀ x ∈ bs, x.k.dec.length ≤ 140737488355328 ∧ x.k.enc.length ≤ 140737488355328) (caps : Array Value) (ah : Int → Bool) (hA : ∀ tg W, Below w.heap.size w W → Calls Tryd.prog 49 (#[.int .i64 tg] ++ caps) W (BoA W (ah tg))) (a b c d : Int) : Calls Tryd.prog 50 #[.slice ba bs.length bc, .agg #[.int .i64 10, .int .i64 a, .int .i64 b, .int .i64 c, .int .i64 d], .func (.func 49) #[] caps] w (BoA w (decide (d = 0) && (fdI a && (msI bs b && (decide (0 ≤ c) && (decide (c ≤ 2))))))) := by
  have hgd := gdIN
  obtain ⟨v, HX⟩ : ∃ v, Hid (v = (decide (d = 0) && (fdI a && (msI bs b && (decide (0 ≤ c) && (decide (c ≤ 2))))))) := ⟨_, hid rfl⟩
  rw [← HX.out]
  by_cases zd : d = 0
  case neg =>
    obtain rfl : v = false := by rw [HX.out]; simp [zd]
    have HS : Hid (∀ W zb, Blk W zb 3 (ints [a, b, c]) → Calls Tryd.prog 64 #[.int .i64 10, .slice (some ⟨zb, 0, none⟩) 3 3] W fun e w' => e = .returned (.agg #[.int .i64 10, .int .i64 a, .int .i64 b, .int .i64 c, .int .i64 0]) ∧ Below W.heap.size W w') := hid fun W zb hB => stepL W 10 [a, b, c] (by simp) zb hB
    have heq : ∀ W, (Op.equalIn 10000 37 (.agg #[.int .i64 10, .int .i64 a, .int .i64 b, .int .i64 c, .int .i64 d]) (.agg #[.int .i64 10, .int .i64 a, .int .i64 b, .int .i64 c, .int .i64 0])).run Tryd.prog W = .ok false W := fun W => by
      have := eqIN ⟨10, a, b, c, d⟩ ⟨10, a, b, c, 0⟩ W
      rw [show inB ⟨10, a, b, c, d⟩ ⟨10, a, b, c, 0⟩ = false by simp [inB, zd]] at this
      exact this
    clear HX zd hA hp hz
    go_enter Tryd.func50, Tryd.ntmps50
    go_wp2_with fail
    have Bs : Blk (w.alloc (.cells #[.int .i64 10, .int .i64 a, .int .i64 b, .int .i64 c, .int .i64 d] 37)) w.heap.size 37 #[.int .i64 10, .int .i64 a, .int .i64 b, .int .i64 c, .int .i64 d] := Blk.new _ _ _
    have HB : Hid (Below w.heap.size w (w.alloc (.cells #[.int .i64 10, .int .i64 a, .int .i64 b, .int .i64 c, .int .i64 d] 37))) := hid (by exact blBy)
    generalize w.alloc (.cells #[.int .i64 10, .int .i64 a, .int .i64 b, .int .i64 c, .int .i64 d] 37) = V at *
    refine wp_region_held_drew (S := fun W => ∀ i, W.cell? ⟨w.heap.size, i, none⟩ = #[.int .i64 10, .int .i64 a, .int .i64 b, .int .i64 c, .int .i64 d][i]?) (by kernel_rfl) ?_ (fun hHeld => ?_)
    · exact (Bs.kept (below_drew1 _)).cellF
    refine tkJ 0 ?_
    try go_frame
    refine tkJ 1 ?_
    try go_frame
    refine tkJ 2 ?_
    try go_frame
    refine tkJ 3 ?_
    try go_frame
    refine tkJ 4 ?_
    try go_frame
    refine tkJ 5 ?_
    try go_frame
    refine tkJ 6 ?_
    try go_frame
    refine tkJ 7 ?_
    try go_frame
    refine tkJ 8 ?_
    try go_frame
    refine wpAnyH_ready (rs := [9]) (by kernel_rfl) (by simp) ?_
    refine AllReadyH.cons rfl (fun K hK => ?_) AllReadyH.nil
    go_simp
    refine hK.out _ _ ?_ (fun hHeld => ?_)
    · first | exact Bs.cellF | exact (Bs.kept (bl_drew (below_alloc _))).cellF | exact (Bs.kept (below_alloc _)).cellF
    clear hK K
    try go_frame
    refine wpAnyH_ready (rs := [10]) (by kernel_rfl) (by simp) ?_
    refine AllReadyH.cons rfl (fun K hK => ?_) AllReadyH.nil
    go_simp
    go_wp2_with (go_at_call 64; refine (HS.out _ _ ((Blk.new _ _ _).kept (below_drew1 _))).mono ?_; rintro e w1 ⟨rfl, hbx⟩; replace Bs := Bs.kept (below_trans (by first | exact Below.refl _ _ | exact below_drew1 _ | exact below_drewN _ _ | exact bl_drew (below_alloc _)) hbx); replace HB := hid (below_trans HB.out (below_trans (by first | exact Below.refl _ _ | exact below_drew1 _ | exact below_drewN _ _ | exact bl_drew (below_alloc _)) hbx)); clear hbx)
    refine hK.out _ _ ?_ (fun hHeld => ?_)
    · first | exact Bs.cellF | exact (Bs.kept (bl_drew (below_alloc _))).cellF | exact (Bs.kept (below_alloc _)).cellF
    clear hK K
    try go_frame
    refine tkJ 11 ?_
    try go_frame
    refine tkJ 12 ?_
    try go_frame
    refine tkU 13 ?_
    try go_frame
    refine tkU 14 ?_
    try go_frame
    refine tkU 15 ?_
    try go_frame
    refine tkJ 16 ?_
    try go_frame
    refine tkJ 17 ?_
    try go_frame
    refine tkU 18 ?_
    try go_frame
    refine tkU 19 ?_
    try go_frame
    refine tkU 20 ?_
    try go_frame
    refine tkU 21 ?_
    try go_frame
    refine tkJ 22 ?_
    try go_frame
    refine tkJ 23 ?_
    try go_frame
    refine tkU 24 ?_
    try go_frame
    refine tkU 25 ?_
    try go_frame
    refine tkU 26 ?_
    try go_frame
    refine tkJ 27 ?_
    try go_frame
    refine tkJ 28 ?_
    try go_frame
    refine tkU 29 ?_
    try go_frame
    refine tkU 30 ?_
    try go_frame
    refine tkU 31 ?_
    try go_frame
    refine tkJ 32 ?_
    try go_frame
    refine tkJ 33 ?_
    try go_frame
    refine wpAnyH_done (by kernel_rfl) ?_ _
    try simp only [Act.put, List.getElem_toArray, List.getElem_cons_succ, List.getElem_cons_zero, List.setIfInBounds_toArray, List.set_cons_zero, List.set_cons_succ]
    go_wp2
    go_ret
    exact ⟨rfl, HB.out⟩
  subst zd
  replace HX : Hid (v = (fdI a && (msI bs b && (decide (0 ≤ c) && (decide (c ≤ 2)))))) := hid (by rw [HX.out]; simp)
  have HS : Hid (∀ W zb, Blk W zb 3 (ints [a, b, c]) → Calls Tryd.prog 64 #[.int .i64 10, .slice (some ⟨zb, 0, none⟩) 3 3] W fun e w' => e = .returned (.agg #[.int .i64 10, .int .i64 a, .int .i64 b, .int .i64 c, .int .i64 0]) ∧ Below W.heap.size W w') := hid fun W zb hB => stepL W 10 [a, b, c] (by simp) zb hB
  have heq : ∀ W, (Op.equalIn 10000 37 (.agg #[.int .i64 10, .int .i64 a, .int .i64 b, .int .i64 c, .int .i64 0]) (.agg #[.int .i64 10, .int .i64 a, .int .i64 b, .int .i64 c, .int .i64 0])).run Tryd.prog W = .ok true W := fun W => by
    have := eqIN ⟨10, a, b, c, 0⟩ ⟨10, a, b, c, 0⟩ W
    rw [(inB_iff _ _).2 rfl] at this
    exact this
  have H0 := hid (fun W => isFieldP W a)
  cases s0 : fdI a with
  | false =>
    rw [s0] at H0
    obtain rfl : v = false := by rw [HX.out]; simp [s0]
    clear HX s0 hA hp hz
    go_enter Tryd.func50, Tryd.ntmps50
    go_wp2_with fail
    have Bs : Blk (w.alloc (.cells #[.int .i64 10, .int .i64 a, .int .i64 b, .int .i64 c, .int .i64 0] 37)) w.heap.size 37 #[.int .i64 10, .int .i64 a, .int .i64 b, .int .i64 c, .int .i64 0] := Blk.new _ _ _
    have HB : Hid (Below w.heap.size w (w.alloc (.cells #[.int .i64 10, .int .i64 a, .int .i64 b, .int .i64 c, .int .i64 0] 37))) := hid (by exact blBy)
    generalize w.alloc (.cells #[.int .i64 10, .int .i64 a, .int .i64 b, .int .i64 c, .int .i64 0] 37) = V at *
    refine wp_region_held_drew (S := fun W => ∀ i, W.cell? ⟨w.heap.size, i, none⟩ = #[.int .i64 10, .int .i64 a, .int .i64 b, .int .i64 c, .int .i64 0][i]?) (by kernel_rfl) ?_ (fun hHeld => ?_)
    · exact (Bs.kept (below_drew1 _)).cellF
    refine tkJ 0 ?_
    try go_frame
    refine tkJ 1 ?_
    try go_frame
    refine tkJ 2 ?_
    try go_frame
    refine tkJ 3 ?_
    try go_frame
    refine tkJ 4 ?_
    try go_frame
    refine tkJ 5 ?_
    try go_frame
    refine tkJ 6 ?_
    try go_frame
    refine tkJ 7 ?_
    try go_frame
    refine tkJ 8 ?_
    try go_frame
    refine wpAnyH_ready (rs := [9]) (by kernel_rfl) (by simp) ?_
    refine AllReadyH.cons rfl (fun K hK => ?_) AllReadyH.nil
    go_simp
    refine hK.out _ _ ?_ (fun hHeld => ?_)
    · first | exact Bs.cellF | exact (Bs.kept (bl_drew (below_alloc _))).cellF | exact (Bs.kept (below_alloc _)).cellF
    clear hK K
    try go_frame
    refine wpAnyH_ready (rs := [10]) (by kernel_rfl) (by simp) ?_
    refine AllReadyH.cons rfl (fun K hK => ?_) AllReadyH.nil
    go_simp
    go_wp2_with (go_at_call 64; refine (HS.out _ _ ((Blk.new _ _ _).kept (below_drew1 _))).mono ?_; rintro e w1 ⟨rfl, hbx⟩; replace Bs := Bs.kept (below_trans (by first | exact Below.refl _ _ | exact below_drew1 _ | exact below_drewN _ _ | exact bl_drew (below_alloc _)) hbx); replace HB := hid (below_trans HB.out (below_trans (by first | exact Below.refl _ _ | exact below_drew1 _ | exact below_drewN _ _ | exact bl_drew (below_alloc _)) hbx)); clear hbx)
    refine hK.out _ _ ?_ (fun hHeld => ?_)
    · first | exact Bs.cellF | exact (Bs.kept (bl_drew (below_alloc _))).cellF | exact (Bs.kept (below_alloc _)).cellF
    clear hK K
    try go_frame
    refine tkJ 11 ?_
    try go_frame
    refine tkJ 12 ?_
    try go_frame
    refine tkJ 13 ?_
    try go_frame
    refine tkJ 14 ?_
    try go_frame
    refine wpAnyH_ready (rs := [15]) (by kernel_rfl) (by simp) ?_
    refine AllReadyH.cons rfl (fun K hK => ?_) AllReadyH.nil
    go_simp
    go_wp2_with (go_at_call 67; refine (H0.out _).mono ?_; rintro e w2 ⟨rfl, rfl⟩)
    refine hK.out _ _ ?_ (fun hHeld => ?_)
    · first | exact Bs.cellF | exact (Bs.kept (bl_drew (below_alloc _))).cellF | exact (Bs.kept (below_alloc _)).cellF
    clear hK K
    try go_frame
    refine tkJ 16 ?_
    try go_frame
    refine tkJ 17 ?_
    try go_frame
    refine tkU 18 ?_
    try go_frame
    refine tkU 19 ?_
    try go_frame
    refine tkU 20 ?_
    try go_frame
    refine tkU 21 ?_
    try go_frame
    refine tkJ 22 ?_
    try go_frame
    refine tkJ 23 ?_
    try go_frame
    refine tkU 24 ?_
    try go_frame
    refine tkU 25 ?_
    try go_frame
    refine tkU 26 ?_
    try go_frame
    refine tkJ 27 ?_
    try go_frame
    refine tkJ 28 ?_
    try go_frame
    refine tkU 29 ?_
    try go_frame
    refine tkU 30 ?_
    try go_frame
    refine tkU 31 ?_
    try go_frame
    refine tkJ 32 ?_
    try go_frame
    refine tkJ 33 ?_
    try go_frame
    refine wpAnyH_done (by kernel_rfl) ?_ _
    try simp only [Act.put, List.getElem_toArray, List.getElem_cons_succ, List.getElem_cons_zero, List.setIfInBounds_toArray, List.set_cons_zero, List.set_cons_succ]
    go_wp2
    go_ret
    exact ⟨rfl, HB.out⟩
  | true =>
  rw [s0] at H0
  replace HX : Hid (v = (msI bs b && (decide (0 ≤ c) && (decide (c ≤ 2))))) := hid (by rw [HX.out]; simp [s0])
  clear s0
  have H1 := hid (fun W (hW : Below w.heap.size w W) => isMessageP W bs ba bc (hp.kept hW) hz b)
  cases s1 : msI bs b with
  | false =>
    rw [s1] at H1
    obtain rfl : v = false := by rw [HX.out]; simp [s1]
    clear HX s1 hA hp hz
    go_enter Tryd.func50, Tryd.ntmps50
    go_wp2_with fail
    have Bs : Blk (w.alloc (.cells #[.int .i64 10, .int .i64 a, .int .i64 b, .int .i64 c, .int .i64 0] 37)) w.heap.size 37 #[.int .i64 10, .int .i64 a, .int .i64 b, .int .i64 c, .int .i64 0] := Blk.new _ _ _
    have HB : Hid (Below w.heap.size w (w.alloc (.cells #[.int .i64 10, .int .i64 a, .int .i64 b, .int .i64 c, .int .i64 0] 37))) := hid (by exact blBy)
    generalize w.alloc (.cells #[.int .i64 10, .int .i64 a, .int .i64 b, .int .i64 c, .int .i64 0] 37) = V at *
    refine wp_region_held_drew (S := fun W => ∀ i, W.cell? ⟨w.heap.size, i, none⟩ = #[.int .i64 10, .int .i64 a, .int .i64 b, .int .i64 c, .int .i64 0][i]?) (by kernel_rfl) ?_ (fun hHeld => ?_)
    · exact (Bs.kept (below_drew1 _)).cellF
    refine tkJ 0 ?_
    try go_frame
    refine tkJ 1 ?_
    try go_frame
    refine tkJ 2 ?_
    try go_frame
    refine tkJ 3 ?_
    try go_frame
    refine tkJ 4 ?_
    try go_frame
    refine tkJ 5 ?_
    try go_frame
    refine tkJ 6 ?_
    try go_frame
    refine tkJ 7 ?_
    try go_frame
    refine tkJ 8 ?_
    try go_frame
    refine wpAnyH_ready (rs := [9]) (by kernel_rfl) (by simp) ?_
    refine AllReadyH.cons rfl (fun K hK => ?_) AllReadyH.nil
    go_simp
    refine hK.out _ _ ?_ (fun hHeld => ?_)
    · first | exact Bs.cellF | exact (Bs.kept (bl_drew (below_alloc _))).cellF | exact (Bs.kept (below_alloc _)).cellF
    clear hK K
    try go_frame
    refine wpAnyH_ready (rs := [10]) (by kernel_rfl) (by simp) ?_
    refine AllReadyH.cons rfl (fun K hK => ?_) AllReadyH.nil
    go_simp
    go_wp2_with (go_at_call 64; refine (HS.out _ _ ((Blk.new _ _ _).kept (below_drew1 _))).mono ?_; rintro e w1 ⟨rfl, hbx⟩; replace Bs := Bs.kept (below_trans (by first | exact Below.refl _ _ | exact below_drew1 _ | exact below_drewN _ _ | exact bl_drew (below_alloc _)) hbx); replace HB := hid (below_trans HB.out (below_trans (by first | exact Below.refl _ _ | exact below_drew1 _ | exact below_drewN _ _ | exact bl_drew (below_alloc _)) hbx)); clear hbx)
    refine hK.out _ _ ?_ (fun hHeld => ?_)
    · first | exact Bs.cellF | exact (Bs.kept (bl_drew (below_alloc _))).cellF | exact (Bs.kept (below_alloc _)).cellF
    clear hK K
    try go_frame
    refine tkJ 11 ?_
    try go_frame
    refine tkJ 12 ?_
    try go_frame
    refine tkJ 13 ?_
    try go_frame
    refine tkJ 14 ?_
    try go_frame
    refine wpAnyH_ready (rs := [15]) (by kernel_rfl) (by simp) ?_
    refine AllReadyH.cons rfl (fun K hK => ?_) AllReadyH.nil
    go_simp
    go_wp2_with (go_at_call 67; refine (H0.out _).mono ?_; rintro e w2 ⟨rfl, rfl⟩)
    refine hK.out _ _ ?_ (fun hHeld => ?_)
    · first | exact Bs.cellF | exact (Bs.kept (bl_drew (below_alloc _))).cellF | exact (Bs.kept (below_alloc _)).cellF
    clear hK K
    try go_frame
    refine tkJ 16 ?_
    try go_frame
    refine tkJ 17 ?_
    try go_frame
    refine tkJ 18 ?_
    try go_frame
    refine tkJ 19 ?_
    try go_frame
    refine tkJ 20 ?_
    try go_frame
    refine wpAnyH_ready (rs := [21]) (by kernel_rfl) (by simp) ?_
    refine AllReadyH.cons rfl (fun K hK => ?_) AllReadyH.nil
    go_simp
    go_wp2_with (go_at_call 68; refine (H1.out _ (below_trans HB.out (by first | exact Below.refl _ _ | exact below_drew1 _ | exact below_drewN _ _))).mono ?_; rintro e w2 ⟨rfl, hbx⟩; replace Bs := Bs.kept (below_trans (by first | exact Below.refl _ _ | exact below_drew1 _ | exact below_drewN _ _ | exact bl_drew (below_alloc _)) hbx); replace HB := hid (below_trans HB.out (below_trans (by first | exact Below.refl _ _ | exact below_drew1 _ | exact below_drewN _ _ | exact bl_drew (below_alloc _)) hbx)); clear hbx)
    refine hK.out _ _ ?_ (fun hHeld => ?_)
    · first | exact Bs.cellF | exact (Bs.kept (bl_drew (below_alloc _))).cellF | exact (Bs.kept (below_alloc _)).cellF
    clear hK K
    try go_frame
    refine tkJ 22 ?_
    try go_frame
    refine tkJ 23 ?_
    try go_frame
    refine tkU 24 ?_
    try go_frame
    refine tkU 25 ?_
    try go_frame
    refine tkU 26 ?_
    try go_frame
    refine tkJ 27 ?_
    try go_frame
    refine tkJ 28 ?_
    try go_frame
    refine tkU 29 ?_
    try go_frame
    refine tkU 30 ?_
    try go_frame
    refine tkU 31 ?_
    try go_frame
    refine tkJ 32 ?_
    try go_frame
    refine tkJ 33 ?_
    try go_frame
    refine wpAnyH_done (by kernel_rfl) ?_ _
    try simp only [Act.put, List.getElem_toArray, List.getElem_cons_succ, List.getElem_cons_zero, List.setIfInBounds_toArray, List.set_cons_zero, List.set_cons_succ]
    go_wp2
    go_ret
    exact ⟨rfl, HB.out⟩
  | true =>
  rw [s1] at H1
  replace HX : Hid (v = (decide (0 ≤ c) && (decide (c ≤ 2)))) := hid (by rw [HX.out]; simp [s1])
  clear s1
  by_cases p2 : 0 ≤ c
  case neg =>
    have r2 : (0 ≤ c) = False := eq_false p2
    obtain rfl : v = false := by rw [HX.out]; simp [p2]
    clear HX p2 hA hp hz
    go_enter Tryd.func50, Tryd.ntmps50
    go_wp2_with fail
    have Bs : Blk (w.alloc (.cells #[.int .i64 10, .int .i64 a, .int .i64 b, .int .i64 c, .int .i64 0] 37)) w.heap.size 37 #[.int .i64 10, .int .i64 a, .int .i64 b, .int .i64 c, .int .i64 0] := Blk.new _ _ _
    have HB : Hid (Below w.heap.size w (w.alloc (.cells #[.int .i64 10, .int .i64 a, .int .i64 b, .int .i64 c, .int .i64 0] 37))) := hid (by exact blBy)
    generalize w.alloc (.cells #[.int .i64 10, .int .i64 a, .int .i64 b, .int .i64 c, .int .i64 0] 37) = V at *
    refine wp_region_held_drew (S := fun W => ∀ i, W.cell? ⟨w.heap.size, i, none⟩ = #[.int .i64 10, .int .i64 a, .int .i64 b, .int .i64 c, .int .i64 0][i]?) (by kernel_rfl) ?_ (fun hHeld => ?_)
    · exact (Bs.kept (below_drew1 _)).cellF
    refine tkJ 0 ?_
    try go_frame
    refine tkJ 1 ?_
    try go_frame
    refine tkJ 2 ?_
    try go_frame
    refine tkJ 3 ?_
    try go_frame
    refine tkJ 4 ?_
    try go_frame
    refine tkJ 5 ?_
    try go_frame
    refine tkJ 6 ?_
    try go_frame
    refine tkJ 7 ?_
    try go_frame
    refine tkJ 8 ?_
    try go_frame
    refine wpAnyH_ready (rs := [9]) (by kernel_rfl) (by simp) ?_
    refine AllReadyH.cons rfl (fun K hK => ?_) AllReadyH.nil
    go_simp
    refine hK.out _ _ ?_ (fun hHeld => ?_)
    · first | exact Bs.cellF | exact (Bs.kept (bl_drew (below_alloc _))).cellF | exact (Bs.kept (below_alloc _)).cellF
    clear hK K
    try go_frame
    refine wpAnyH_ready (rs := [10]) (by kernel_rfl) (by simp) ?_
    refine AllReadyH.cons rfl (fun K hK => ?_) AllReadyH.nil
    go_simp
    go_wp2_with (go_at_call 64; refine (HS.out _ _ ((Blk.new _ _ _).kept (below_drew1 _))).mono ?_; rintro e w1 ⟨rfl, hbx⟩; replace Bs := Bs.kept (below_trans (by first | exact Below.refl _ _ | exact below_drew1 _ | exact below_drewN _ _ | exact bl_drew (below_alloc _)) hbx); replace HB := hid (below_trans HB.out (below_trans (by first | exact Below.refl _ _ | exact below_drew1 _ | exact below_drewN _ _ | exact bl_drew (below_alloc _)) hbx)); clear hbx)
    refine hK.out _ _ ?_ (fun hHeld => ?_)
    · first | exact Bs.cellF | exact (Bs.kept (bl_drew (below_alloc _))).cellF | exact (Bs.kept (below_alloc _)).cellF
    clear hK K
    try go_frame
    refine tkJ 11 ?_
    try go_frame
    refine tkJ 12 ?_
    try go_frame
    refine tkJ 13 ?_
    try go_frame
    refine tkJ 14 ?_
    try go_frame
    refine wpAnyH_ready (rs := [15]) (by kernel_rfl) (by simp) ?_
    refine AllReadyH.cons rfl (fun K hK => ?_) AllReadyH.nil
    go_simp
    go_wp2_with (go_at_call 67; refine (H0.out _).mono ?_; rintro e w2 ⟨rfl, rfl⟩)
    refine hK.out _ _ ?_ (fun hHeld => ?_)
    · first | exact Bs.cellF | exact (Bs.kept (bl_drew (below_alloc _))).cellF | exact (Bs.kept (below_alloc _)).cellF
    clear hK K
    try go_frame
    refine tkJ 16 ?_
    try go_frame
    refine tkJ 17 ?_
    try go_frame
    refine tkJ 18 ?_
    try go_frame
    refine tkJ 19 ?_
    try go_frame
    refine tkJ 20 ?_
    try go_frame
    refine wpAnyH_ready (rs := [21]) (by kernel_rfl) (by simp) ?_
    refine AllReadyH.cons rfl (fun K hK => ?_) AllReadyH.nil
    go_simp
    go_wp2_with (go_at_call 68; refine (H1.out _ (below_trans HB.out (by first | exact Below.refl _ _ | exact below_drew1 _ | exact below_drewN _ _))).mono ?_; rintro e w2 ⟨rfl, hbx⟩; replace Bs := Bs.kept (below_trans (by first | exact Below.refl _ _ | exact below_drew1 _ | exact below_drewN _ _ | exact bl_drew (below_alloc _)) hbx); replace HB := hid (below_trans HB.out (below_trans (by first | exact Below.refl _ _ | exact below_drew1 _ | exact below_drewN _ _ | exact bl_drew (below_alloc _)) hbx)); clear hbx)
    refine hK.out _ _ ?_ (fun hHeld => ?_)
    · first | exact Bs.cellF | exact (Bs.kept (bl_drew (below_alloc _))).cellF | exact (Bs.kept (below_alloc _)).cellF
    clear hK K
    try go_frame
    refine tkJ 22 ?_
    try go_frame
    refine tkJ 23 ?_
    try go_frame
    refine tkJ 24 ?_
    try go_frame
    refine tkJ 25 ?_
    try go_frame
    refine tkJ 26 ?_
    try go_frame
    refine tkJ 27 ?_
    try go_frame
    refine tkJ 28 ?_
    try go_frame
    refine tkU 29 ?_
    try go_frame
    refine tkU 30 ?_
    try go_frame
    refine tkU 31 ?_
    try go_frame
    refine tkJ 32 ?_
    try go_frame
    refine tkJ 33 ?_
    try go_frame
    refine wpAnyH_done (by kernel_rfl) ?_ _
    try simp only [Act.put, List.getElem_toArray, List.getElem_cons_succ, List.getElem_cons_zero, List.setIfInBounds_toArray, List.set_cons_zero, List.set_cons_succ]
    go_wp2
    go_ret
    exact ⟨rfl, HB.out⟩
  have r2 : (0 ≤ c) = True := eq_true p2
  replace HX : Hid (v = (decide (c ≤ 2))) := hid (by rw [HX.out]; simp [p2])
  by_cases p3 : c ≤ 2
  case neg =>
    have r3 : (c ≤ 2) = False := eq_false p3
    obtain rfl : v = false := by rw [HX.out]; simp [p3]
    clear HX p3 hA hp hz
    go_enter Tryd.func50, Tryd.ntmps50
    go_wp2_with fail
    have Bs : Blk (w.alloc (.cells #[.int .i64 10, .int .i64 a, .int .i64 b, .int .i64 c, .int .i64 0] 37)) w.heap.size 37 #[.int .i64 10, .int .i64 a, .int .i64 b, .int .i64 c, .int .i64 0] := Blk.new _ _ _
    have HB : Hid (Below w.heap.size w (w.alloc (.cells #[.int .i64 10, .int .i64 a, .int .i64 b, .int .i64 c, .int .i64 0] 37))) := hid (by exact blBy)
    generalize w.alloc (.cells #[.int .i64 10, .int .i64 a, .int .i64 b, .int .i64 c, .int .i64 0] 37) = V at *
    refine wp_region_held_drew (S := fun W => ∀ i, W.cell? ⟨w.heap.size, i, none⟩ = #[.int .i64 10, .int .i64 a, .int .i64 b, .int .i64 c, .int .i64 0][i]?) (by kernel_rfl) ?_ (fun hHeld => ?_)
    · exact (Bs.kept (below_drew1 _)).cellF
    refine tkJ 0 ?_
    try go_frame
    refine tkJ 1 ?_
    try go_frame
    refine tkJ 2 ?_
    try go_frame
    refine tkJ 3 ?_
    try go_frame
    refine tkJ 4 ?_
    try go_frame
    refine tkJ 5 ?_
    try go_frame
    refine tkJ 6 ?_
    try go_frame
    refine tkJ 7 ?_
    try go_frame
    refine tkJ 8 ?_
    try go_frame
    refine wpAnyH_ready (rs := [9]) (by kernel_rfl) (by simp) ?_
    refine AllReadyH.cons rfl (fun K hK => ?_) AllReadyH.nil
    go_simp
    refine hK.out _ _ ?_ (fun hHeld => ?_)
    · first | exact Bs.cellF | exact (Bs.kept (bl_drew (below_alloc _))).cellF | exact (Bs.kept (below_alloc _)).cellF
    clear hK K
    try go_frame
    refine wpAnyH_ready (rs := [10]) (by kernel_rfl) (by simp) ?_
    refine AllReadyH.cons rfl (fun K hK => ?_) AllReadyH.nil
    go_simp
    go_wp2_with (go_at_call 64; refine (HS.out _ _ ((Blk.new _ _ _).kept (below_drew1 _))).mono ?_; rintro e w1 ⟨rfl, hbx⟩; replace Bs := Bs.kept (below_trans (by first | exact Below.refl _ _ | exact below_drew1 _ | exact below_drewN _ _ | exact bl_drew (below_alloc _)) hbx); replace HB := hid (below_trans HB.out (below_trans (by first | exact Below.refl _ _ | exact below_drew1 _ | exact below_drewN _ _ | exact bl_drew (below_alloc _)) hbx)); clear hbx)
    refine hK.out _ _ ?_ (fun hHeld => ?_)
    · first | exact Bs.cellF | exact (Bs.kept (bl_drew (below_alloc _))).cellF | exact (Bs.kept (below_alloc _)).cellF
    clear hK K
    try go_frame
    refine tkJ 11 ?_
    try go_frame
    refine tkJ 12 ?_
    try go_frame
    refine tkJ 13 ?_
    try go_frame
    refine tkJ 14 ?_
    try go_frame
    refine wpAnyH_ready (rs := [15]) (by kernel_rfl) (by simp) ?_
    refine AllReadyH.cons rfl (fun K hK => ?_) AllReadyH.nil
    go_simp
    go_wp2_with (go_at_call 67; refine (H0.out _).mono ?_; rintro e w2 ⟨rfl, rfl⟩)
    refine hK.out _ _ ?_ (fun hHeld => ?_)
    · first | exact Bs.cellF | exact (Bs.kept (bl_drew (below_alloc _))).cellF | exact (Bs.kept (below_alloc _)).cellF
    clear hK K
    try go_frame
    refine tkJ 16 ?_
    try go_frame
    refine tkJ 17 ?_
    try go_frame
    refine tkJ 18 ?_
    try go_frame
    refine tkJ 19 ?_
    try go_frame
    refine tkJ 20 ?_
    try go_frame
    refine wpAnyH_ready (rs := [21]) (by kernel_rfl) (by simp) ?_
    refine AllReadyH.cons rfl (fun K hK => ?_) AllReadyH.nil
    go_simp
    go_wp2_with (go_at_call 68; refine (H1.out _ (below_trans HB.out (by first | exact Below.refl _ _ | exact below_drew1 _ | exact below_drewN _ _))).mono ?_; rintro e w2 ⟨rfl, hbx⟩; replace Bs := Bs.kept (below_trans (by first | exact Below.refl _ _ | exact below_drew1 _ | exact below_drewN _ _ | exact bl_drew (below_alloc _)) hbx); replace HB := hid (below_trans HB.out (below_trans (by first | exact Below.refl _ _ | exact below_drew1 _ | exact below_drewN _ _ | exact bl_drew (below_alloc _)) hbx)); clear hbx)
    refine hK.out _ _ ?_ (fun hHeld => ?_)
    · first | exact Bs.cellF | exact (Bs.kept (bl_drew (below_alloc _))).cellF | exact (Bs.kept (below_alloc _)).cellF
    clear hK K
    try go_frame
    refine tkJ 22 ?_
    try go_frame
    refine tkJ 23 ?_
    try go_frame
    refine tkJ 24 ?_
    try go_frame
    refine tkJ 25 ?_
    try go_frame
    refine tkJ 26 ?_
    try go_frame
    refine tkJ 27 ?_
    try go_frame
    refine tkJ 28 ?_
    try go_frame
    refine tkJ 29 ?_
    try go_frame
    refine tkJ 30 ?_
    try go_frame
    refine tkJ 31 ?_
    try go_frame
    refine tkJ 32 ?_
    try go_frame
    refine tkJ 33 ?_
    try go_frame
    refine wpAnyH_done (by kernel_rfl) ?_ _
    try simp only [Act.put, List.getElem_toArray, List.getElem_cons_succ, List.getElem_cons_zero, List.setIfInBounds_toArray, List.set_cons_zero, List.set_cons_succ]
    go_wp2
    go_ret
    exact ⟨rfl, HB.out⟩
  have r3 : (c ≤ 2) = True := eq_true p3
  replace HX : Hid (v = (true)) := hid (by rw [HX.out]; simp [p3])
  obtain rfl : v = true := by first | exact HX.out | (rw [HX.out]; simp)
  clear HX hA hp hz
  go_enter Tryd.func50, Tryd.ntmps50
  go_wp2_with fail
  have Bs : Blk (w.alloc (.cells #[.int .i64 10, .int .i64 a, .int .i64 b, .int .i64 c, .int .i64 0] 37)) w.heap.size 37 #[.int .i64 10, .int .i64 a, .int .i64 b, .int .i64 c, .int .i64 0] := Blk.new _ _ _
  have HB : Hid (Below w.heap.size w (w.alloc (.cells #[.int .i64 10, .int .i64 a, .int .i64 b, .int .i64 c, .int .i64 0] 37))) := hid (by exact blBy)
  generalize w.alloc (.cells #[.int .i64 10, .int .i64 a, .int .i64 b, .int .i64 c, .int .i64 0] 37) = V at *
  refine wp_region_held_drew (S := fun W => ∀ i, W.cell? ⟨w.heap.size, i, none⟩ = #[.int .i64 10, .int .i64 a, .int .i64 b, .int .i64 c, .int .i64 0][i]?) (by kernel_rfl) ?_ (fun hHeld => ?_)
  · exact (Bs.kept (below_drew1 _)).cellF
  refine tkJ 0 ?_
  try go_frame
  refine tkJ 1 ?_
  try go_frame
  refine tkJ 2 ?_
  try go_frame
  refine tkJ 3 ?_
  try go_frame
  refine tkJ 4 ?_
  try go_frame
  refine tkJ 5 ?_
  try go_frame
  refine tkJ 6 ?_
  try go_frame
  refine tkJ 7 ?_
  try go_frame
  refine tkJ 8 ?_
  try go_frame
  refine wpAnyH_ready (rs := [9]) (by kernel_rfl) (by simp) ?_
  refine AllReadyH.cons rfl (fun K hK => ?_) AllReadyH.nil
  go_simp
  refine hK.out _ _ ?_ (fun hHeld => ?_)
  · first | exact Bs.cellF | exact (Bs.kept (bl_drew (below_alloc _))).cellF | exact (Bs.kept (below_alloc _)).cellF
  clear hK K
  try go_frame
  refine wpAnyH_ready (rs := [10]) (by kernel_rfl) (by simp) ?_
  refine AllReadyH.cons rfl (fun K hK => ?_) AllReadyH.nil
  go_simp
  go_wp2_with (go_at_call 64; refine (HS.out _ _ ((Blk.new _ _ _).kept (below_drew1 _))).mono ?_; rintro e w1 ⟨rfl, hbx⟩; replace Bs := Bs.kept (below_trans (by first | exact Below.refl _ _ | exact below_drew1 _ | exact below_drewN _ _ | exact bl_drew (below_alloc _)) hbx); replace HB := hid (below_trans HB.out (below_trans (by first | exact Below.refl _ _ | exact below_drew1 _ | exact below_drewN _ _ | exact bl_drew (below_alloc _)) hbx)); clear hbx)
  refine hK.out _ _ ?_ (fun hHeld => ?_)
  · first | exact Bs.cellF | exact (Bs.kept (bl_drew (below_alloc _))).cellF | exact (Bs.kept (below_alloc _)).cellF
  clear hK K
  try go_frame
  refine tkJ 11 ?_
  try go_frame
  refine tkJ 12 ?_
  try go_frame
  refine tkJ 13 ?_
  try go_frame
  refine tkJ 14 ?_
  try go_frame
  refine wpAnyH_ready (rs := [15]) (by kernel_rfl) (by simp) ?_
  refine AllReadyH.cons rfl (fun K hK => ?_) AllReadyH.nil
  go_simp
  go_wp2_with (go_at_call 67; refine (H0.out _).mono ?_; rintro e w2 ⟨rfl, rfl⟩)
  refine hK.out _ _ ?_ (fun hHeld => ?_)
  · first | exact Bs.cellF | exact (Bs.kept (bl_drew (below_alloc _))).cellF | exact (Bs.kept (below_alloc _)).cellF
  clear hK K
  try go_frame
  refine tkJ 16 ?_
  try go_frame
  refine tkJ 17 ?_
  try go_frame
  refine tkJ 18 ?_
  try go_frame
  refine tkJ 19 ?_
  try go_frame
  refine tkJ 20 ?_
  try go_frame
  refine wpAnyH_ready (rs := [21]) (by kernel_rfl) (by simp) ?_
  refine AllReadyH.cons rfl (fun K hK => ?_) AllReadyH.nil
  go_simp
  go_wp2_with (go_at_call 68; refine (H1.out _ (below_trans HB.out (by first | exact Below.refl _ _ | exact below_drew1 _ | exact below_drewN _ _))).mono ?_; rintro e w2 ⟨rfl, hbx⟩; replace Bs := Bs.kept (below_trans (by first | exact Below.refl _ _ | exact below_drew1 _ | exact below_drewN _ _ | exact bl_drew (below_alloc _)) hbx); replace HB := hid (below_trans HB.out (below_trans (by first | exact Below.refl _ _ | exact below_drew1 _ | exact below_drewN _ _ | exact bl_drew (below_alloc _)) hbx)); clear hbx)
  refine hK.out _ _ ?_ (fun hHeld => ?_)
  · first | exact Bs.cellF | exact (Bs.kept (bl_drew (below_alloc _))).cellF | exact (Bs.kept (below_alloc _)).cellF
  clear hK K
  try go_frame
  refine tkJ 22 ?_
  try go_frame
  refine tkJ 23 ?_
  try go_frame
  refine tkJ 24 ?_
  try go_frame
  refine tkJ 25 ?_
  try go_frame
  refine tkJ 26 ?_
  try go_frame
  refine tkJ 27 ?_
  try go_frame
  refine tkJ 28 ?_
  try go_frame
  refine tkJ 29 ?_
  try go_frame
  refine tkJ 30 ?_
  try go_frame
  refine tkJ 31 ?_
  try go_frame
  refine tkJ 32 ?_
  try go_frame
  refine tkJ 33 ?_
  try go_frame
  refine wpAnyH_done (by kernel_rfl) ?_ _
  try simp only [Act.put, List.getElem_toArray, List.getElem_cons_succ, List.getElem_cons_zero, List.setIfInBounds_toArray, List.set_cons_zero, List.set_cons_succ]
  go_wp2
  go_ret
  exact ⟨rfl, HB.out⟩
end Go.Proofs.YtpndejibjiojbaaDoor
