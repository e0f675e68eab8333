/-
  The program's: is a step one that reads, or writes, at its place? (a part)
  The program's: Pair and Pairs, both ways.
  The program's: is a step one that reads, or writes, at its place? Both ways.
  The document's: rows that rise, and the writing steps of a block.
  The program's: do rows rise? Both ways.
  The program's: is a row none of a symbol? Both ways.
  IndexFunc and ContainsFunc over rows: both ways.
  The program's: are rows those of an enum's symbols? Both ways.
-/
import Derived.Test.YtpndejibjiojbaaDoorCVP2
import Derived.Test.YtpndejibjiojbaaDoorCVP5
import Derived.Maps.RangeWalk
import Derived.Test.YtpndejibjiojbaaDoorVP3a
import Derived.Test.YtpndejibjiojbaaDoorVP3b
import Derived.Test.YtpndejibjiojbaaDoorVP3d
import Derived.Test.YtpndejibjiojbaaDoorVP3e
import Derived.Test.YtpndejibjiojbaaDoorVP3f
import Derived.Test.YtpndejibjiojbaaDoorCVP3g
import Derived.Test.YtpndejibjiojbaaDoorCKC
namespace Go.Proofs.YtpndejibjiojbaaDoor
open Go.RowKit
set_option maxRecDepth 1000000
set_option linter.unusedVariables false
set_option linter.unusedSimpArgs false
set_option maxHeartbeats 20000000
theorem wr_11 (w : World) (bs : List BV) (ba : Option Addr) (bc : Nat) (hp : PgR w (.slice ba bs.length bc) bs) (hz : ∀ x ∈ bs, x.k.dec.length ≤ 140737488355328 ∧ x.k.enc.length ≤ 140737488355328) (caps : Array Value) (ah : Int → Bool) (hA : ∀ tg W, Below w.heap.size w W → Calls Tryd.prog 49 (#[.int .i64 tg] ++ caps) W (BoA W (ah tg))) (a b c d : Int) (hic : I64 c) : Calls Tryd.prog 50 #[.slice ba bs.length bc, .agg #[.int .i64 11, .int .i64 a, .int .i64 b, .int .i64 c, .int .i64 d], .func (.func 49) #[] caps] w (BoA w (decide (d = 0) && (fdI a && (knum b && (rsI bs b c))))) := by
  have hgd := gdIN
  obtain ⟨v, HX⟩ : ∃ v, Hid (v = (decide (d = 0) && (fdI a && (knum b && (rsI bs b c))))) := ⟨_, hid rfl⟩
  rw [← HX.out]
  by_cases zd : d = 0
  case neg =>
    obtain rfl : v = false := by rw [HX.out]; simp [zd]
    have HS : Hid (∀ W zb, Blk W zb 3 (ints [a, b, c]) → Calls Tryd.prog 64 #[.int .i64 11, .slice (some ⟨zb, 0, none⟩) 3 3] W fun e w' => e = .returned (.agg #[.int .i64 11, .int .i64 a, .int .i64 b, .int .i64 c, .int .i64 0]) ∧ Below W.heap.size W w') := hid fun W zb hB => stepL W 11 [a, b, c] (by simp) zb hB
    have heq : ∀ W, (Op.equalIn 10000 37 (.agg #[.int .i64 11, .int .i64 a, .int .i64 b, .int .i64 c, .int .i64 d]) (.agg #[.int .i64 11, .int .i64 a, .int .i64 b, .int .i64 c, .int .i64 0])).run Tryd.prog W = .ok false W := fun W => by
      have := eqIN ⟨11, a, b, c, d⟩ ⟨11, a, b, c, 0⟩ W
      rw [show inB ⟨11, a, b, c, d⟩ ⟨11, a, b, c, 0⟩ = false by simp [inB, zd]] at this
      exact this
    clear HX zd hA hp hz
    go_enter Tryd.func50, Tryd.ntmps50
    go_wp2_with fail
    have Bs : Blk (w.alloc (.cells #[.int .i64 11, .int .i64 a, .int .i64 b, .int .i64 c, .int .i64 d] 37)) w.heap.size 37 #[.int .i64 11, .int .i64 a, .int .i64 b, .int .i64 c, .int .i64 d] := Blk.new _ _ _
    have HB : Hid (Below w.heap.size w (w.alloc (.cells #[.int .i64 11, .int .i64 a, .int .i64 b, .int .i64 c, .int .i64 d] 37))) := hid (by exact blBy)
    generalize w.alloc (.cells #[.int .i64 11, .int .i64 a, .int .i64 b, .int .i64 c, .int .i64 d] 37) = V at *
    refine wp_region_held_drew (S := fun W => ∀ i, W.cell? ⟨w.heap.size, i, none⟩ = #[.int .i64 11, .int .i64 a, .int .i64 b, .int .i64 c, .int .i64 d][i]?) (by kernel_rfl) ?_ (fun hHeld => ?_)
    · exact (Bs.kept (below_drew1 _)).cellF
    refine tkJ 0 ?_
    try go_frame
    refine tkJ 1 ?_
    try go_frame
    refine tkJ 2 ?_
    try go_frame
    refine tkJ 3 ?_
    try go_frame
    refine tkJ 4 ?_
    try go_frame
    refine tkJ 5 ?_
    try go_frame
    refine tkJ 6 ?_
    try go_frame
    refine tkJ 7 ?_
    try go_frame
    refine tkJ 8 ?_
    try go_frame
    refine wpAnyH_ready (rs := [9]) (by kernel_rfl) (by simp) ?_
    refine AllReadyH.cons rfl (fun K hK => ?_) AllReadyH.nil
    go_simp
    refine hK.out _ _ ?_ (fun hHeld => ?_)
    · first | exact Bs.cellF | exact (Bs.kept (bl_drew (below_alloc _))).cellF | exact (Bs.kept (below_alloc _)).cellF
    clear hK K
    try go_frame
    refine wpAnyH_ready (rs := [10]) (by kernel_rfl) (by simp) ?_
    refine AllReadyH.cons rfl (fun K hK => ?_) AllReadyH.nil
    go_simp
    go_wp2_with (go_at_call 64; refine (HS.out _ _ ((Blk.new _ _ _).kept (below_drew1 _))).mono ?_; rintro e w1 ⟨rfl, hbx⟩; replace Bs := Bs.kept (below_trans (by first | exact Below.refl _ _ | exact below_drew1 _ | exact below_drewN _ _ | exact bl_drew (below_alloc _)) hbx); replace HB := hid (below_trans HB.out (below_trans (by first | exact Below.refl _ _ | exact below_drew1 _ | exact below_drewN _ _ | exact bl_drew (below_alloc _)) hbx)); clear hbx)
    refine hK.out _ _ ?_ (fun hHeld => ?_)
    · first | exact Bs.cellF | exact (Bs.kept (bl_drew (below_alloc _))).cellF | exact (Bs.kept (below_alloc _)).cellF
    clear hK K
    try go_frame
    refine tkJ 11 ?_
    try go_frame
    refine tkJ 12 ?_
    try go_frame
    refine tkU 13 ?_
    try go_frame
    refine tkU 14 ?_
    try go_frame
    refine tkU 15 ?_
    try go_frame
    refine tkJ 16 ?_
    try go_frame
    refine tkJ 17 ?_
    try go_frame
    refine tkU 18 ?_
    try go_frame
    refine tkU 19 ?_
    try go_frame
    refine tkU 20 ?_
    try go_frame
    refine tkJ 21 ?_
    try go_frame
    refine tkJ 22 ?_
    try go_frame
    refine tkU 23 ?_
    try go_frame
    refine tkU 24 ?_
    try go_frame
    refine tkU 25 ?_
    try go_frame
    refine tkU 26 ?_
    try go_frame
    refine tkU 27 ?_
    try go_frame
    refine tkU 28 ?_
    try go_frame
    refine tkJ 29 ?_
    try go_frame
    refine tkJ 30 ?_
    try go_frame
    refine wpAnyH_done (by kernel_rfl) ?_ _
    try simp only [Act.put, List.getElem_toArray, List.getElem_cons_succ, List.getElem_cons_zero, List.setIfInBounds_toArray, List.set_cons_zero, List.set_cons_succ]
    go_wp2
    go_ret
    exact ⟨rfl, HB.out⟩
  subst zd
  replace HX : Hid (v = (fdI a && (knum b && (rsI bs b c)))) := hid (by rw [HX.out]; simp)
  have HS : Hid (∀ W zb, Blk W zb 3 (ints [a, b, c]) → Calls Tryd.prog 64 #[.int .i64 11, .slice (some ⟨zb, 0, none⟩) 3 3] W fun e w' => e = .returned (.agg #[.int .i64 11, .int .i64 a, .int .i64 b, .int .i64 c, .int .i64 0]) ∧ Below W.heap.size W w') := hid fun W zb hB => stepL W 11 [a, b, c] (by simp) zb hB
  have heq : ∀ W, (Op.equalIn 10000 37 (.agg #[.int .i64 11, .int .i64 a, .int .i64 b, .int .i64 c, .int .i64 0]) (.agg #[.int .i64 11, .int .i64 a, .int .i64 b, .int .i64 c, .int .i64 0])).run Tryd.prog W = .ok true W := fun W => by
    have := eqIN ⟨11, a, b, c, 0⟩ ⟨11, a, b, c, 0⟩ W
    rw [(inB_iff _ _).2 rfl] at this
    exact this
  have H0 := hid (fun W => isFieldP W a)
  cases s0 : fdI a with
  | false =>
    rw [s0] at H0
    obtain rfl : v = false := by rw [HX.out]; simp [s0]
    clear HX s0 hA hp hz
    go_enter Tryd.func50, Tryd.ntmps50
    go_wp2_with fail
    have Bs : Blk (w.alloc (.cells #[.int .i64 11, .int .i64 a, .int .i64 b, .int .i64 c, .int .i64 0] 37)) w.heap.size 37 #[.int .i64 11, .int .i64 a, .int .i64 b, .int .i64 c, .int .i64 0] := Blk.new _ _ _
    have HB : Hid (Below w.heap.size w (w.alloc (.cells #[.int .i64 11, .int .i64 a, .int .i64 b, .int .i64 c, .int .i64 0] 37))) := hid (by exact blBy)
    generalize w.alloc (.cells #[.int .i64 11, .int .i64 a, .int .i64 b, .int .i64 c, .int .i64 0] 37) = V at *
    refine wp_region_held_drew (S := fun W => ∀ i, W.cell? ⟨w.heap.size, i, none⟩ = #[.int .i64 11, .int .i64 a, .int .i64 b, .int .i64 c, .int .i64 0][i]?) (by kernel_rfl) ?_ (fun hHeld => ?_)
    · exact (Bs.kept (below_drew1 _)).cellF
    refine tkJ 0 ?_
    try go_frame
    refine tkJ 1 ?_
    try go_frame
    refine tkJ 2 ?_
    try go_frame
    refine tkJ 3 ?_
    try go_frame
    refine tkJ 4 ?_
    try go_frame
    refine tkJ 5 ?_
    try go_frame
    refine tkJ 6 ?_
    try go_frame
    refine tkJ 7 ?_
    try go_frame
    refine tkJ 8 ?_
    try go_frame
    refine wpAnyH_ready (rs := [9]) (by kernel_rfl) (by simp) ?_
    refine AllReadyH.cons rfl (fun K hK => ?_) AllReadyH.nil
    go_simp
    refine hK.out _ _ ?_ (fun hHeld => ?_)
    · first | exact Bs.cellF | exact (Bs.kept (bl_drew (below_alloc _))).cellF | exact (Bs.kept (below_alloc _)).cellF
    clear hK K
    try go_frame
    refine wpAnyH_ready (rs := [10]) (by kernel_rfl) (by simp) ?_
    refine AllReadyH.cons rfl (fun K hK => ?_) AllReadyH.nil
    go_simp
    go_wp2_with (go_at_call 64; refine (HS.out _ _ ((Blk.new _ _ _).kept (below_drew1 _))).mono ?_; rintro e w1 ⟨rfl, hbx⟩; replace Bs := Bs.kept (below_trans (by first | exact Below.refl _ _ | exact below_drew1 _ | exact below_drewN _ _ | exact bl_drew (below_alloc _)) hbx); replace HB := hid (below_trans HB.out (below_trans (by first | exact Below.refl _ _ | exact below_drew1 _ | exact below_drewN _ _ | exact bl_drew (below_alloc _)) hbx)); clear hbx)
    refine hK.out _ _ ?_ (fun hHeld => ?_)
    · first | exact Bs.cellF | exact (Bs.kept (bl_drew (below_alloc _))).cellF | exact (Bs.kept (below_alloc _)).cellF
    clear hK K
    try go_frame
    refine tkJ 11 ?_
    try go_frame
    refine tkJ 12 ?_
    try go_frame
    refine tkJ 13 ?_
    try go_frame
    refine tkJ 14 ?_
    try go_frame
    refine wpAnyH_ready (rs := [15]) (by kernel_rfl) (by simp) ?_
    refine AllReadyH.cons rfl (fun K hK => ?_) AllReadyH.nil
    go_simp
    go_wp2_with (go_at_call 67; refine (H0.out _).mono ?_; rintro e w2 ⟨rfl, rfl⟩)
    refine hK.out _ _ ?_ (fun hHeld => ?_)
    · first | exact Bs.cellF | exact (Bs.kept (bl_drew (below_alloc _))).cellF | exact (Bs.kept (below_alloc _)).cellF
    clear hK K
    try go_frame
    refine tkJ 16 ?_
    try go_frame
    refine tkJ 17 ?_
    try go_frame
    refine tkU 18 ?_
    try go_frame
    refine tkU 19 ?_
    try go_frame
    refine tkU 20 ?_
    try go_frame
    refine tkJ 21 ?_
    try go_frame
    refine tkJ 22 ?_
    try go_frame
    refine tkU 23 ?_
    try go_frame
    refine tkU 24 ?_
    try go_frame
    refine tkU 25 ?_
    try go_frame
    refine tkU 26 ?_
    try go_frame
    refine tkU 27 ?_
    try go_frame
    refine tkU 28 ?_
    try go_frame
    refine tkJ 29 ?_
    try go_frame
    refine tkJ 30 ?_
    try go_frame
    refine wpAnyH_done (by kernel_rfl) ?_ _
    try simp only [Act.put, List.getElem_toArray, List.getElem_cons_succ, List.getElem_cons_zero, List.setIfInBounds_toArray, List.set_cons_zero, List.set_cons_succ]
    go_wp2
    go_ret
    exact ⟨rfl, HB.out⟩
  | true =>
  rw [s0] at H0
  replace HX : Hid (v = (knum b && (rsI bs b c))) := hid (by rw [HX.out]; simp [s0])
  clear s0
  have H1 := hid (fun W => numericW b W)
  cases s1 : knum b with
  | false =>
    rw [s1] at H1
    obtain rfl : v = false := by rw [HX.out]; simp [s1]
    clear HX s1 hA hp hz
    go_enter Tryd.func50, Tryd.ntmps50
    go_wp2_with fail
    have Bs : Blk (w.alloc (.cells #[.int .i64 11, .int .i64 a, .int .i64 b, .int .i64 c, .int .i64 0] 37)) w.heap.size 37 #[.int .i64 11, .int .i64 a, .int .i64 b, .int .i64 c, .int .i64 0] := Blk.new _ _ _
    have HB : Hid (Below w.heap.size w (w.alloc (.cells #[.int .i64 11, .int .i64 a, .int .i64 b, .int .i64 c, .int .i64 0] 37))) := hid (by exact blBy)
    generalize w.alloc (.cells #[.int .i64 11, .int .i64 a, .int .i64 b, .int .i64 c, .int .i64 0] 37) = V at *
    refine wp_region_held_drew (S := fun W => ∀ i, W.cell? ⟨w.heap.size, i, none⟩ = #[.int .i64 11, .int .i64 a, .int .i64 b, .int .i64 c, .int .i64 0][i]?) (by kernel_rfl) ?_ (fun hHeld => ?_)
    · exact (Bs.kept (below_drew1 _)).cellF
    refine tkJ 0 ?_
    try go_frame
    refine tkJ 1 ?_
    try go_frame
    refine tkJ 2 ?_
    try go_frame
    refine tkJ 3 ?_
    try go_frame
    refine tkJ 4 ?_
    try go_frame
    refine tkJ 5 ?_
    try go_frame
    refine tkJ 6 ?_
    try go_frame
    refine tkJ 7 ?_
    try go_frame
    refine tkJ 8 ?_
    try go_frame
    refine wpAnyH_ready (rs := [9]) (by kernel_rfl) (by simp) ?_
    refine AllReadyH.cons rfl (fun K hK => ?_) AllReadyH.nil
    go_simp
    refine hK.out _ _ ?_ (fun hHeld => ?_)
    · first | exact Bs.cellF | exact (Bs.kept (bl_drew (below_alloc _))).cellF | exact (Bs.kept (below_alloc _)).cellF
    clear hK K
    try go_frame
    refine wpAnyH_ready (rs := [10]) (by kernel_rfl) (by simp) ?_
    refine AllReadyH.cons rfl (fun K hK => ?_) AllReadyH.nil
    go_simp
    go_wp2_with (go_at_call 64; refine (HS.out _ _ ((Blk.new _ _ _).kept (below_drew1 _))).mono ?_; rintro e w1 ⟨rfl, hbx⟩; replace Bs := Bs.kept (below_trans (by first | exact Below.refl _ _ | exact below_drew1 _ | exact below_drewN _ _ | exact bl_drew (below_alloc _)) hbx); replace HB := hid (below_trans HB.out (below_trans (by first | exact Below.refl _ _ | exact below_drew1 _ | exact below_drewN _ _ | exact bl_drew (below_alloc _)) hbx)); clear hbx)
    refine hK.out _ _ ?_ (fun hHeld => ?_)
    · first | exact Bs.cellF | exact (Bs.kept (bl_drew (below_alloc _))).cellF | exact (Bs.kept (below_alloc _)).cellF
    clear hK K
    try go_frame
    refine tkJ 11 ?_
    try go_frame
    refine tkJ 12 ?_
    try go_frame
    refine tkJ 13 ?_
    try go_frame
    refine tkJ 14 ?_
    try go_frame
    refine wpAnyH_ready (rs := [15]) (by kernel_rfl) (by simp) ?_
    refine AllReadyH.cons rfl (fun K hK => ?_) AllReadyH.nil
    go_simp
    go_wp2_with (go_at_call 67; refine (H0.out _).mono ?_; rintro e w2 ⟨rfl, rfl⟩)
    refine hK.out _ _ ?_ (fun hHeld => ?_)
    · first | exact Bs.cellF | exact (Bs.kept (bl_drew (below_alloc _))).cellF | exact (Bs.kept (below_alloc _)).cellF
    clear hK K
    try go_frame
    refine tkJ 16 ?_
    try go_frame
    refine tkJ 17 ?_
    try go_frame
    refine tkJ 18 ?_
    try go_frame
    refine tkJ 19 ?_
    try go_frame
    refine wpAnyH_ready (rs := [20]) (by kernel_rfl) (by simp) ?_
    refine AllReadyH.cons rfl (fun K hK => ?_) AllReadyH.nil
    go_simp
    go_wp2_with (go_at_call 69; refine (H1.out _).mono ?_; rintro e w2 ⟨rfl, rfl⟩)
    refine hK.out _ _ ?_ (fun hHeld => ?_)
    · first | exact Bs.cellF | exact (Bs.kept (bl_drew (below_alloc _))).cellF | exact (Bs.kept (below_alloc _)).cellF
    clear hK K
    try go_frame
    refine tkJ 21 ?_
    try go_frame
    refine tkJ 22 ?_
    try go_frame
    refine tkU 23 ?_
    try go_frame
    refine tkU 24 ?_
    try go_frame
    refine tkU 25 ?_
    try go_frame
    refine tkU 26 ?_
    try go_frame
    refine tkU 27 ?_
    try go_frame
    refine tkU 28 ?_
    try go_frame
    refine tkJ 29 ?_
    try go_frame
    refine tkJ 30 ?_
    try go_frame
    refine wpAnyH_done (by kernel_rfl) ?_ _
    try simp only [Act.put, List.getElem_toArray, List.getElem_cons_succ, List.getElem_cons_zero, List.setIfInBounds_toArray, List.set_cons_zero, List.set_cons_succ]
    go_wp2
    go_ret
    exact ⟨rfl, HB.out⟩
  | true =>
  rw [s1] at H1
  replace HX : Hid (v = (rsI bs b c)) := hid (by rw [HX.out]; simp [s1])
  clear s1
  have H2 := hid (fun W (hW : Below w.heap.size w W) => areRowSymbolsP W bs ba bc (hp.kept hW) hz b c hic)
  cases s2 : rsI bs b c with
  | false =>
    rw [s2] at H2
    obtain rfl : v = false := by rw [HX.out]; simp [s2]
    clear HX s2 hA hp hz
    go_enter Tryd.func50, Tryd.ntmps50
    go_wp2_with fail
    have Bs : Blk (w.alloc (.cells #[.int .i64 11, .int .i64 a, .int .i64 b, .int .i64 c, .int .i64 0] 37)) w.heap.size 37 #[.int .i64 11, .int .i64 a, .int .i64 b, .int .i64 c, .int .i64 0] := Blk.new _ _ _
    have HB : Hid (Below w.heap.size w (w.alloc (.cells #[.int .i64 11, .int .i64 a, .int .i64 b, .int .i64 c, .int .i64 0] 37))) := hid (by exact blBy)
    generalize w.alloc (.cells #[.int .i64 11, .int .i64 a, .int .i64 b, .int .i64 c, .int .i64 0] 37) = V at *
    refine wp_region_held_drew (S := fun W => ∀ i, W.cell? ⟨w.heap.size, i, none⟩ = #[.int .i64 11, .int .i64 a, .int .i64 b, .int .i64 c, .int .i64 0][i]?) (by kernel_rfl) ?_ (fun hHeld => ?_)
    · exact (Bs.kept (below_drew1 _)).cellF
    refine tkJ 0 ?_
    try go_frame
    refine tkJ 1 ?_
    try go_frame
    refine tkJ 2 ?_
    try go_frame
    refine tkJ 3 ?_
    try go_frame
    refine tkJ 4 ?_
    try go_frame
    refine tkJ 5 ?_
    try go_frame
    refine tkJ 6 ?_
    try go_frame
    refine tkJ 7 ?_
    try go_frame
    refine tkJ 8 ?_
    try go_frame
    refine wpAnyH_ready (rs := [9]) (by kernel_rfl) (by simp) ?_
    refine AllReadyH.cons rfl (fun K hK => ?_) AllReadyH.nil
    go_simp
    refine hK.out _ _ ?_ (fun hHeld => ?_)
    · first | exact Bs.cellF | exact (Bs.kept (bl_drew (below_alloc _))).cellF | exact (Bs.kept (below_alloc _)).cellF
    clear hK K
    try go_frame
    refine wpAnyH_ready (rs := [10]) (by kernel_rfl) (by simp) ?_
    refine AllReadyH.cons rfl (fun K hK => ?_) AllReadyH.nil
    go_simp
    go_wp2_with (go_at_call 64; refine (HS.out _ _ ((Blk.new _ _ _).kept (below_drew1 _))).mono ?_; rintro e w1 ⟨rfl, hbx⟩; replace Bs := Bs.kept (below_trans (by first | exact Below.refl _ _ | exact below_drew1 _ | exact below_drewN _ _ | exact bl_drew (below_alloc _)) hbx); replace HB := hid (below_trans HB.out (below_trans (by first | exact Below.refl _ _ | exact below_drew1 _ | exact below_drewN _ _ | exact bl_drew (below_alloc _)) hbx)); clear hbx)
    refine hK.out _ _ ?_ (fun hHeld => ?_)
    · first | exact Bs.cellF | exact (Bs.kept (bl_drew (below_alloc _))).cellF | exact (Bs.kept (below_alloc _)).cellF
    clear hK K
    try go_frame
    refine tkJ 11 ?_
    try go_frame
    refine tkJ 12 ?_
    try go_frame
    refine tkJ 13 ?_
    try go_frame
    refine tkJ 14 ?_
    try go_frame
    refine wpAnyH_ready (rs := [15]) (by kernel_rfl) (by simp) ?_
    refine AllReadyH.cons rfl (fun K hK => ?_) AllReadyH.nil
    go_simp
    go_wp2_with (go_at_call 67; refine (H0.out _).mono ?_; rintro e w2 ⟨rfl, rfl⟩)
    refine hK.out _ _ ?_ (fun hHeld => ?_)
    · first | exact Bs.cellF | exact (Bs.kept (bl_drew (below_alloc _))).cellF | exact (Bs.kept (below_alloc _)).cellF
    clear hK K
    try go_frame
    refine tkJ 16 ?_
    try go_frame
    refine tkJ 17 ?_
    try go_frame
    refine tkJ 18 ?_
    try go_frame
    refine tkJ 19 ?_
    try go_frame
    refine wpAnyH_ready (rs := [20]) (by kernel_rfl) (by simp) ?_
    refine AllReadyH.cons rfl (fun K hK => ?_) AllReadyH.nil
    go_simp
    go_wp2_with (go_at_call 69; refine (H1.out _).mono ?_; rintro e w2 ⟨rfl, rfl⟩)
    refine hK.out _ _ ?_ (fun hHeld => ?_)
    · first | exact Bs.cellF | exact (Bs.kept (bl_drew (below_alloc _))).cellF | exact (Bs.kept (below_alloc _)).cellF
    clear hK K
    try go_frame
    refine tkJ 21 ?_
    try go_frame
    refine tkJ 22 ?_
    try go_frame
    refine tkJ 23 ?_
    try go_frame
    refine tkJ 24 ?_
    try go_frame
    refine tkJ 25 ?_
    try go_frame
    refine tkJ 26 ?_
    try go_frame
    refine tkJ 27 ?_
    try go_frame
    refine wpAnyH_ready (rs := [28]) (by kernel_rfl) (by simp) ?_
    refine AllReadyH.cons rfl (fun K hK => ?_) AllReadyH.nil
    go_simp
    go_wp2_with (go_at_call 70; refine (H2.out _ (below_trans HB.out (by first | exact Below.refl _ _ | exact below_drew1 _ | exact below_drewN _ _))).mono ?_; rintro e w2 ⟨rfl, hbx⟩; replace Bs := Bs.kept (below_trans (by first | exact Below.refl _ _ | exact below_drew1 _ | exact below_drewN _ _ | exact bl_drew (below_alloc _)) hbx); replace HB := hid (below_trans HB.out (below_trans (by first | exact Below.refl _ _ | exact below_drew1 _ | exact below_drewN _ _ | exact bl_drew (below_alloc _)) hbx)); clear hbx)
    refine hK.out _ _ ?_ (fun hHeld => ?_)
    · first | exact Bs.cellF | exact (Bs.kept (bl_drew (below_alloc _))).cellF | exact (Bs.kept (below_alloc _)).cellF
    clear hK K
    try go_frame
    refine tkJ 29 ?_
    try go_frame
    refine tkJ 30 ?_
    try go_frame
    refine wpAnyH_done (by kernel_rfl) ?_ _
    try simp only [Act.put, List.getElem_toArray, List.getElem_cons_succ, List.getElem_cons_zero, List.setIfInBounds_toArray, List.set_cons_zero, List.set_cons_succ]
    go_wp2
    go_ret
    exact ⟨rfl, HB.out⟩
  | true =>
  rw [s2] at H2
  replace HX : Hid (v = (true)) := hid (by rw [HX.out]; simp [s2])
  clear s2
  obtain rfl : v = true := by first | exact HX.out | (rw [HX.out]; simp)
  clear HX hA hp hz
  go_enter Tryd.func50, Tryd.ntmps50
  go_wp2_with fail
  have Bs : Blk (w.alloc (.cells #[.int .i64 11, .int .i64 a, .int .i64 b, .int .i64 c, .int .i64 0] 37)) w.heap.size 37 #[.int .i64 11, .int .i64 a, .int .i64 b, .int .i64 c, .int .i64 0] := Blk.new _ _ _
  have HB : Hid (Below w.heap.size w (w.alloc (.cells #[.int .i64 11, .int .i64 a, .int .i64 b, .int .i64 c, .int .i64 0] 37))) := hid (by exact blBy)
  generalize w.alloc (.cells #[.int .i64 11, .int .i64 a, .int .i64 b, .int .i64 c, .int .i64 0] 37) = V at *
  refine wp_region_held_drew (S := fun W => ∀ i, W.cell? ⟨w.heap.size, i, none⟩ = #[.int .i64 11, .int .i64 a, .int .i64 b, .int .i64 c, .int .i64 0][i]?) (by kernel_rfl) ?_ (fun hHeld => ?_)
  · exact (Bs.kept (below_drew1 _)).cellF
  refine tkJ 0 ?_
  try go_frame
  refine tkJ 1 ?_
  try go_frame
  refine tkJ 2 ?_
  try go_frame
  refine tkJ 3 ?_
  try go_frame
  refine tkJ 4 ?_
  try go_frame
  refine tkJ 5 ?_
  try go_frame
  refine tkJ 6 ?_
  try go_frame
  refine tkJ 7 ?_
  try go_frame
  refine tkJ 8 ?_
  try go_frame
  refine wpAnyH_ready (rs := [9]) (by kernel_rfl) (by simp) ?_
  refine AllReadyH.cons rfl (fun K hK => ?_) AllReadyH.nil
  go_simp
  refine hK.out _ _ ?_ (fun hHeld => ?_)
  · first | exact Bs.cellF | exact (Bs.kept (bl_drew (below_alloc _))).cellF | exact (Bs.kept (below_alloc _)).cellF
  clear hK K
  try go_frame
  refine wpAnyH_ready (rs := [10]) (by kernel_rfl) (by simp) ?_
  refine AllReadyH.cons rfl (fun K hK => ?_) AllReadyH.nil
  go_simp
  go_wp2_with (go_at_call 64; refine (HS.out _ _ ((Blk.new _ _ _).kept (below_drew1 _))).mono ?_; rintro e w1 ⟨rfl, hbx⟩; replace Bs := Bs.kept (below_trans (by first | exact Below.refl _ _ | exact below_drew1 _ | exact below_drewN _ _ | exact bl_drew (below_alloc _)) hbx); replace HB := hid (below_trans HB.out (below_trans (by first | exact Below.refl _ _ | exact below_drew1 _ | exact below_drewN _ _ | exact bl_drew (below_alloc _)) hbx)); clear hbx)
  refine hK.out _ _ ?_ (fun hHeld => ?_)
  · first | exact Bs.cellF | exact (Bs.kept (bl_drew (below_alloc _))).cellF | exact (Bs.kept (below_alloc _)).cellF
  clear hK K
  try go_frame
  refine tkJ 11 ?_
  try go_frame
  refine tkJ 12 ?_
  try go_frame
  refine tkJ 13 ?_
  try go_frame
  refine tkJ 14 ?_
  try go_frame
  refine wpAnyH_ready (rs := [15]) (by kernel_rfl) (by simp) ?_
  refine AllReadyH.cons rfl (fun K hK => ?_) AllReadyH.nil
  go_simp
  go_wp2_with (go_at_call 67; refine (H0.out _).mono ?_; rintro e w2 ⟨rfl, rfl⟩)
  refine hK.out _ _ ?_ (fun hHeld => ?_)
  · first | exact Bs.cellF | exact (Bs.kept (bl_drew (below_alloc _))).cellF | exact (Bs.kept (below_alloc _)).cellF
  clear hK K
  try go_frame
  refine tkJ 16 ?_
  try go_frame
  refine tkJ 17 ?_
  try go_frame
  refine tkJ 18 ?_
  try go_frame
  refine tkJ 19 ?_
  try go_frame
  refine wpAnyH_ready (rs := [20]) (by kernel_rfl) (by simp) ?_
  refine AllReadyH.cons rfl (fun K hK => ?_) AllReadyH.nil
  go_simp
  go_wp2_with (go_at_call 69; refine (H1.out _).mono ?_; rintro e w2 ⟨rfl, rfl⟩)
  refine hK.out _ _ ?_ (fun hHeld => ?_)
  · first | exact Bs.cellF | exact (Bs.kept (bl_drew (below_alloc _))).cellF | exact (Bs.kept (below_alloc _)).cellF
  clear hK K
  try go_frame
  refine tkJ 21 ?_
  try go_frame
  refine tkJ 22 ?_
  try go_frame
  refine tkJ 23 ?_
  try go_frame
  refine tkJ 24 ?_
  try go_frame
  refine tkJ 25 ?_
  try go_frame
  refine tkJ 26 ?_
  try go_frame
  refine tkJ 27 ?_
  try go_frame
  refine wpAnyH_ready (rs := [28]) (by kernel_rfl) (by simp) ?_
  refine AllReadyH.cons rfl (fun K hK => ?_) AllReadyH.nil
  go_simp
  go_wp2_with (go_at_call 70; refine (H2.out _ (below_trans HB.out (by first | exact Below.refl _ _ | exact below_drew1 _ | exact below_drewN _ _))).mono ?_; rintro e w2 ⟨rfl, hbx⟩; replace Bs := Bs.kept (below_trans (by first | exact Below.refl _ _ | exact below_drew1 _ | exact below_drewN _ _ | exact bl_drew (below_alloc _)) hbx); replace HB := hid (below_trans HB.out (below_trans (by first | exact Below.refl _ _ | exact below_drew1 _ | exact below_drewN _ _ | exact bl_drew (below_alloc _)) hbx)); clear hbx)
  refine hK.out _ _ ?_ (fun hHeld => ?_)
  · first | exact Bs.cellF | exact (Bs.kept (bl_drew (below_alloc _))).cellF | exact (Bs.kept (below_alloc _)).cellF
  clear hK K
  try go_frame
  refine tkJ 29 ?_
  try go_frame
  refine tkJ 30 ?_
  try go_frame
  refine wpAnyH_done (by kernel_rfl) ?_ _
  try simp only [Act.put, List.getElem_toArray, List.getElem_cons_succ, List.getElem_cons_zero, List.setIfInBounds_toArray, List.set_cons_zero, List.set_cons_succ]
  go_wp2
  go_ret
  exact ⟨rfl, HB.out⟩
set_option maxHeartbeats 4000000
theorem wr_12 (w : World) (bs : List BV) (ba : Option Addr) (bc : Nat) (hp : PgR w (.slice ba bs.length bc) bs) (hz : ∀ x ∈ bs, x.k.dec.length ≤ 140737488355328 ∧ x.k.enc.length ≤ 140737488355328) (caps : Array Value) (a b c d : Int) : Calls Tryd.prog 50 #[.slice ba bs.length bc, .agg #[.int .i64 12, .int .i64 a, .int .i64 b, .int .i64 c, .int .i64 d], .func (.func 49) #[] caps] w (BoA w (fdI a && (kkey b && (kdI c && bkI bs c d)))) := by
  have H1 := hid (fun W => isFieldP W a)
  have H2 := hid (fun W => isKeyW b W)
  have H3 := hid (fun W (hW : Below w.heap.size w W) => isOfKindP W bs ba bc (hp.kept hW) hz c d)
  clear hp hz
  generalize (kdI c && bkI bs c d) = v3 at *
  generalize kkey b = v2 at *
  generalize fdI a = v1 at *
  cases v1 with
  | false =>
    go_enter Tryd.func50, Tryd.ntmps50
    go_wp2_with fail
    have Bx : Blk (w.alloc (.cells #[.int .i64 12, .int .i64 a, .int .i64 b, .int .i64 c, .int .i64 d] 37)) w.heap.size 37 #[.int .i64 12, .int .i64 a, .int .i64 b, .int .i64 c, .int .i64 d] := Blk.new _ _ _
    have HB : Hid (Below w.heap.size w (w.alloc (.cells #[.int .i64 12, .int .i64 a, .int .i64 b, .int .i64 c, .int .i64 d] 37))) := hid (by exact blBy)
    generalize (w.alloc (.cells #[.int .i64 12, .int .i64 a, .int .i64 b, .int .i64 c, .int .i64 d] 37)) = V at *
    have xx := Bx.cellF
    have zx := Bx.lt
    go_wp2_with (first | (go_at_call 67; refine (H1.out _).mono ?_; rintro e w1 ⟨rfl, rfl⟩) | (go_at_call 71; refine (H2.out _).mono ?_; rintro e w1 ⟨rfl, rfl⟩) | (go_at_call 72; refine (H3.out _ HB.out).mono ?_; rintro e w1 ⟨rfl, hbx⟩; replace HB := hid (below_trans HB.out hbx); clear hbx))
    go_ret
    exact ⟨rfl, HB.out⟩
  | true =>
  cases v2 with
  | false =>
    go_enter Tryd.func50, Tryd.ntmps50
    go_wp2_with fail
    have Bx : Blk (w.alloc (.cells #[.int .i64 12, .int .i64 a, .int .i64 b, .int .i64 c, .int .i64 d] 37)) w.heap.size 37 #[.int .i64 12, .int .i64 a, .int .i64 b, .int .i64 c, .int .i64 d] := Blk.new _ _ _
    have HB : Hid (Below w.heap.size w (w.alloc (.cells #[.int .i64 12, .int .i64 a, .int .i64 b, .int .i64 c, .int .i64 d] 37))) := hid (by exact blBy)
    generalize (w.alloc (.cells #[.int .i64 12, .int .i64 a, .int .i64 b, .int .i64 c, .int .i64 d] 37)) = V at *
    have xx := Bx.cellF
    have zx := Bx.lt
    go_wp2_with (first | (go_at_call 67; refine (H1.out _).mono ?_; rintro e w1 ⟨rfl, rfl⟩) | (go_at_call 71; refine (H2.out _).mono ?_; rintro e w1 ⟨rfl, rfl⟩) | (go_at_call 72; refine (H3.out _ HB.out).mono ?_; rintro e w1 ⟨rfl, hbx⟩; replace HB := hid (below_trans HB.out hbx); clear hbx))
    go_ret
    exact ⟨rfl, HB.out⟩
  | true =>
    go_enter Tryd.func50, Tryd.ntmps50
    go_wp2_with fail
    have Bx : Blk (w.alloc (.cells #[.int .i64 12, .int .i64 a, .int .i64 b, .int .i64 c, .int .i64 d] 37)) w.heap.size 37 #[.int .i64 12, .int .i64 a, .int .i64 b, .int .i64 c, .int .i64 d] := Blk.new _ _ _
    have HB : Hid (Below w.heap.size w (w.alloc (.cells #[.int .i64 12, .int .i64 a, .int .i64 b, .int .i64 c, .int .i64 d] 37))) := hid (by exact blBy)
    generalize (w.alloc (.cells #[.int .i64 12, .int .i64 a, .int .i64 b, .int .i64 c, .int .i64 d] 37)) = V at *
    have xx := Bx.cellF
    have zx := Bx.lt
    go_wp2_with (first | (go_at_call 67; refine (H1.out _).mono ?_; rintro e w1 ⟨rfl, rfl⟩) | (go_at_call 71; refine (H2.out _).mono ?_; rintro e w1 ⟨rfl, rfl⟩) | (go_at_call 72; refine (H3.out _ HB.out).mono ?_; rintro e w1 ⟨rfl, hbx⟩; replace HB := hid (below_trans HB.out hbx); clear hbx))
    go_ret
    exact ⟨rfl, HB.out⟩
theorem wr_22 (w : World) (bs : List BV) (ba : Option Addr) (bc : Nat) (hp : PgR w (.slice ba bs.length bc) bs) (hz : ∀ x ∈ bs, x.k.dec.length ≤ 140737488355328 ∧ x.k.enc.length ≤ 140737488355328) (caps : Array Value) (a b c d : Int) : Calls Tryd.prog 52 #[.slice ba bs.length bc, .agg #[.int .i64 22, .int .i64 a, .int .i64 b, .int .i64 c, .int .i64 d], .func (.func 51) #[] caps] w (BoA w (tgI a && (kkey b && (kdI c && bkI bs c d)))) := by
  have H1 := hid (fun W => isTagP W a)
  have H2 := hid (fun W => isKeyW b W)
  have H3 := hid (fun W (hW : Below w.heap.size w W) => isOfKindP W bs ba bc (hp.kept hW) hz c d)
  clear hp hz
  generalize (kdI c && bkI bs c d) = v3 at *
  generalize kkey b = v2 at *
  generalize tgI a = v1 at *
  cases v1 with
  | false =>
    go_enter Tryd.func52, Tryd.ntmps52
    go_wp2_with fail
    have Bx : Blk (w.alloc (.cells #[.int .i64 22, .int .i64 a, .int .i64 b, .int .i64 c, .int .i64 d] 37)) w.heap.size 37 #[.int .i64 22, .int .i64 a, .int .i64 b, .int .i64 c, .int .i64 d] := Blk.new _ _ _
    have HB : Hid (Below w.heap.size w (w.alloc (.cells #[.int .i64 22, .int .i64 a, .int .i64 b, .int .i64 c, .int .i64 d] 37))) := hid (by exact blBy)
    generalize (w.alloc (.cells #[.int .i64 22, .int .i64 a, .int .i64 b, .int .i64 c, .int .i64 d] 37)) = V at *
    have xx := Bx.cellF
    have zx := Bx.lt
    go_wp2_with (first | (go_at_call 54; refine (H1.out _).mono ?_; rintro e w1 ⟨rfl, rfl⟩) | (go_at_call 71; refine (H2.out _).mono ?_; rintro e w1 ⟨rfl, rfl⟩) | (go_at_call 72; refine (H3.out _ HB.out).mono ?_; rintro e w1 ⟨rfl, hbx⟩; replace HB := hid (below_trans HB.out hbx); clear hbx))
    go_ret
    exact ⟨rfl, HB.out⟩
  | true =>
  cases v2 with
  | false =>
    go_enter Tryd.func52, Tryd.ntmps52
    go_wp2_with fail
    have Bx : Blk (w.alloc (.cells #[.int .i64 22, .int .i64 a, .int .i64 b, .int .i64 c, .int .i64 d] 37)) w.heap.size 37 #[.int .i64 22, .int .i64 a, .int .i64 b, .int .i64 c, .int .i64 d] := Blk.new _ _ _
    have HB : Hid (Below w.heap.size w (w.alloc (.cells #[.int .i64 22, .int .i64 a, .int .i64 b, .int .i64 c, .int .i64 d] 37))) := hid (by exact blBy)
    generalize (w.alloc (.cells #[.int .i64 22, .int .i64 a, .int .i64 b, .int .i64 c, .int .i64 d] 37)) = V at *
    have xx := Bx.cellF
    have zx := Bx.lt
    go_wp2_with (first | (go_at_call 54; refine (H1.out _).mono ?_; rintro e w1 ⟨rfl, rfl⟩) | (go_at_call 71; refine (H2.out _).mono ?_; rintro e w1 ⟨rfl, rfl⟩) | (go_at_call 72; refine (H3.out _ HB.out).mono ?_; rintro e w1 ⟨rfl, hbx⟩; replace HB := hid (below_trans HB.out hbx); clear hbx))
    go_ret
    exact ⟨rfl, HB.out⟩
  | true =>
    go_enter Tryd.func52, Tryd.ntmps52
    go_wp2_with fail
    have Bx : Blk (w.alloc (.cells #[.int .i64 22, .int .i64 a, .int .i64 b, .int .i64 c, .int .i64 d] 37)) w.heap.size 37 #[.int .i64 22, .int .i64 a, .int .i64 b, .int .i64 c, .int .i64 d] := Blk.new _ _ _
    have HB : Hid (Below w.heap.size w (w.alloc (.cells #[.int .i64 22, .int .i64 a, .int .i64 b, .int .i64 c, .int .i64 d] 37))) := hid (by exact blBy)
    generalize (w.alloc (.cells #[.int .i64 22, .int .i64 a, .int .i64 b, .int .i64 c, .int .i64 d] 37)) = V at *
    have xx := Bx.cellF
    have zx := Bx.lt
    go_wp2_with (first | (go_at_call 54; refine (H1.out _).mono ?_; rintro e w1 ⟨rfl, rfl⟩) | (go_at_call 71; refine (H2.out _).mono ?_; rintro e w1 ⟨rfl, rfl⟩) | (go_at_call 72; refine (H3.out _ HB.out).mono ?_; rintro e w1 ⟨rfl, hbx⟩; replace HB := hid (below_trans HB.out hbx); clear hbx))
    go_ret
    exact ⟨rfl, HB.out⟩
def rdI (bs : List BV) (ah : Int → Bool) (s : IN) : Bool := if s.op = 2 then nuI bs s && ah s.b else if s.op = 3 then nuI bs s && ah s.a else if s.op = 4 then nuI bs s && (decide (s.a = 0) || ah s.a) else decide (1 ≤ s.op ∧ s.op ≤ 15) && nuI bs s
def wrI' (bs : List BV) (ah : Int → Bool) (s : IN) : Bool := if s.op = 16 then nuI bs s && ah s.b else decide (16 ≤ s.op ∧ s.op ≤ 25) && nuI bs s
theorem isReadingP (w : World) (bs : List BV) (ba : Option Addr) (bc : Nat) (hp : PgR w (.slice ba bs.length bc) bs) (hz : ∀ x ∈ bs, x.k.dec.length ≤ 140737488355328 ∧ x.k.enc.length ≤ 140737488355328) (caps : Array Value) (ah : Int → Bool) (hA : ∀ tg W, Below w.heap.size w W → Calls Tryd.prog 49 (#[.int .i64 tg] ++ caps) W (BoA W (ah tg))) (s : IN) (hs : I5 s) : Calls Tryd.prog 50 #[.slice ba bs.length bc, .agg #[.int .i64 s.op, .int .i64 s.a, .int .i64 s.b, .int .i64 s.c, .int .i64 s.d], .func (.func 49) #[] caps] w (BoA w (rdI bs ah s)) := by
  obtain ⟨o, a, b, c, d⟩ := s
  have hic : I64 c := hs.c
  dsimp only
  by_cases h1 : o = 1
  · subst h1
    have := wr_1 w bs ba bc hp hz caps ah hA a b c d
    refine this.mono ?_
    rintro e w' ⟨rfl, hb⟩
    exact ⟨ret_bool (by unfold rdI nuI; simp [rsI, Bool.and_assoc]), hb⟩
  by_cases h2 : o = 2
  · subst h2
    have := wr_2 w bs ba bc hp hz caps ah hA a b c d
    refine this.mono ?_
    rintro e w' ⟨rfl, hb⟩
    exact ⟨ret_bool (by unfold rdI nuI; simp [rsI, Bool.and_assoc]), hb⟩
  by_cases h3 : o = 3
  · subst h3
    have := wr_3 w bs ba bc hp hz caps ah hA a b c d
    refine this.mono ?_
    rintro e w' ⟨rfl, hb⟩
    exact ⟨ret_bool (by unfold rdI nuI; simp [rsI, Bool.and_assoc]), hb⟩
  by_cases h4 : o = 4
  · subst h4
    have := wr_4 w bs ba bc hp hz caps ah hA a b c d
    refine this.mono ?_
    rintro e w' ⟨rfl, hb⟩
    exact ⟨ret_bool (by unfold rdI nuI; simp [rsI, Bool.and_assoc]), hb⟩
  by_cases h5 : o = 5
  · subst h5
    have := wr_5 w bs ba bc hp hz caps ah hA a b c d
    refine this.mono ?_
    rintro e w' ⟨rfl, hb⟩
    exact ⟨ret_bool (by unfold rdI nuI; simp [rsI, Bool.and_assoc]), hb⟩
  by_cases h6 : o = 6
  · subst h6
    have := wr_6 w bs ba bc hp hz caps ah hA a b c d
    refine this.mono ?_
    rintro e w' ⟨rfl, hb⟩
    exact ⟨ret_bool (by unfold rdI nuI; simp [rsI, Bool.and_assoc]), hb⟩
  by_cases h7 : o = 7
  · subst h7
    have := wr_7 w bs ba bc hp hz caps ah hA a b c d
    refine this.mono ?_
    rintro e w' ⟨rfl, hb⟩
    exact ⟨ret_bool (by unfold rdI nuI; simp [rsI, Bool.and_assoc]), hb⟩
  by_cases h8 : o = 8
  · subst h8
    have := wr_8 w bs ba bc hp hz caps ah hA a b c d
    refine this.mono ?_
    rintro e w' ⟨rfl, hb⟩
    exact ⟨ret_bool (by unfold rdI nuI; simp [rsI, Bool.and_assoc]), hb⟩
  by_cases h9 : o = 9
  · subst h9
    have := wr_9 w bs ba bc hp hz caps ah hA a b c d
    refine this.mono ?_
    rintro e w' ⟨rfl, hb⟩
    exact ⟨ret_bool (by unfold rdI nuI; simp [rsI, Bool.and_assoc]), hb⟩
  by_cases h10 : o = 10
  · subst h10
    have := wr_10 w bs ba bc hp hz caps ah hA a b c d
    refine this.mono ?_
    rintro e w' ⟨rfl, hb⟩
    exact ⟨ret_bool (by unfold rdI nuI; simp [rsI, Bool.and_assoc]), hb⟩
  by_cases h11 : o = 11
  · subst h11
    have := wr_11 w bs ba bc hp hz caps ah hA a b c d hic
    refine this.mono ?_
    rintro e w' ⟨rfl, hb⟩
    exact ⟨ret_bool (by unfold rdI nuI; by_cases hb16 : b = 16 <;> simp [rsI, Bool.and_assoc, hb16, knum]), hb⟩
  by_cases h12 : o = 12
  · subst h12
    have := wr_12 w bs ba bc hp hz caps a b c d
    refine this.mono ?_
    rintro e w' ⟨rfl, hb⟩
    exact ⟨ret_bool (by unfold rdI nuI; simp [rsI, Bool.and_assoc]), hb⟩
  by_cases h13 : o = 13
  · subst h13
    have := wr_13 w bs ba bc hp hz caps ah hA a b c d
    refine this.mono ?_
    rintro e w' ⟨rfl, hb⟩
    exact ⟨ret_bool (by unfold rdI nuI; simp [rsI, Bool.and_assoc]), hb⟩
  by_cases h14 : o = 14
  · subst h14
    have := wr_14 w bs ba bc hp hz caps ah hA a b c d
    refine this.mono ?_
    rintro e w' ⟨rfl, hb⟩
    exact ⟨ret_bool (by unfold rdI nuI; simp [rsI, Bool.and_assoc]), hb⟩
  by_cases h15 : o = 15
  · subst h15
    have := wr_15 w bs ba bc hp hz caps ah hA a b c d
    refine this.mono ?_
    rintro e w' ⟨rfl, hb⟩
    exact ⟨ret_bool (by unfold rdI nuI; simp [rsI, Bool.and_assoc]), hb⟩
  have q1 : (o == 1) = false := by simpa using h1
  have q2 : (o == 2) = false := by simpa using h2
  have q3 : (o == 3) = false := by simpa using h3
  have q4 : (o == 4) = false := by simpa using h4
  have q5 : (o == 5) = false := by simpa using h5
  have q6 : (o == 6) = false := by simpa using h6
  have q7 : (o == 7) = false := by simpa using h7
  have q8 : (o == 8) = false := by simpa using h8
  have q9 : (o == 9) = false := by simpa using h9
  have q10 : (o == 10) = false := by simpa using h10
  have q11 : (o == 11) = false := by simpa using h11
  have q12 : (o == 12) = false := by simpa using h12
  have q13 : (o == 13) = false := by simpa using h13
  have q14 : (o == 14) = false := by simpa using h14
  have q15 : (o == 15) = false := by simpa using h15
  have e : rdI bs ah ⟨o, a, b, c, d⟩ = false := by
    unfold rdI
    dsimp only
    rw [if_neg h2, if_neg h3, if_neg h4, decide_eq_false (by omega)]
    rfl
  rw [e]
  clear e hA hp hz hs hic h1 h2 h3 h4 h5 h6 h7 h8 h9 h10 h11 h12 h13 h14 h15
  go_enter Tryd.func50, Tryd.ntmps50
  go_wp2
  go_ret
  exact ⟨rfl, by first | exact Below.refl _ _ | exact blBy⟩
theorem isWritingP (w : World) (bs : List BV) (ba : Option Addr) (bc : Nat) (hp : PgR w (.slice ba bs.length bc) bs) (hz : ∀ x ∈ bs, x.k.dec.length ≤ 140737488355328 ∧ x.k.enc.length ≤ 140737488355328) (caps : Array Value) (ah : Int → Bool) (hA : ∀ tg W, Below w.heap.size w W → Calls Tryd.prog 51 (#[.int .i64 tg] ++ caps) W (BoA W (ah tg))) (s : IN) (hs : I5 s) : Calls Tryd.prog 52 #[.slice ba bs.length bc, .agg #[.int .i64 s.op, .int .i64 s.a, .int .i64 s.b, .int .i64 s.c, .int .i64 s.d], .func (.func 51) #[] caps] w (BoA w (wrI' bs ah s)) := by
  obtain ⟨o, a, b, c, d⟩ := s
  have hic : I64 c := hs.c
  dsimp only
  by_cases h16 : o = 16
  · subst h16
    have := wr_16 w bs ba bc hp hz caps ah hA a b c d
    refine this.mono ?_
    rintro e w' ⟨rfl, hb⟩
    exact ⟨ret_bool (by have e0 : (decide (c = 0) || sgI c) = decide (0 ≤ c ∧ c ≤ 16) := (by unfold sgI; rw [← Bool.decide_or]; exact decide_eq_decide.mpr (by omega)); rw [e0]; unfold wrI' nuI; simp [Bool.and_assoc]; cases ah b <;> simp [Bool.and_assoc]), hb⟩
  by_cases h17 : o = 17
  · subst h17
    have := wr_17 w bs ba bc hp hz caps ah hA a b c d
    refine this.mono ?_
    rintro e w' ⟨rfl, hb⟩
    exact ⟨ret_bool (by unfold wrI' nuI; simp [rsI, Bool.and_assoc]), hb⟩
  by_cases h18 : o = 18
  · subst h18
    have := wr_18 w bs ba bc hp hz caps ah hA a b c d
    refine this.mono ?_
    rintro e w' ⟨rfl, hb⟩
    exact ⟨ret_bool (by unfold wrI' nuI; simp [rsI, Bool.and_assoc]), hb⟩
  by_cases h19 : o = 19
  · subst h19
    have := wr_19 w bs ba bc hp hz caps ah hA a b c d
    refine this.mono ?_
    rintro e w' ⟨rfl, hb⟩
    exact ⟨ret_bool (by unfold wrI' nuI; simp [rsI, Bool.and_assoc]), hb⟩
  by_cases h20 : o = 20
  · subst h20
    have := wr_20 w bs ba bc hp hz caps ah hA a b c d
    refine this.mono ?_
    rintro e w' ⟨rfl, hb⟩
    exact ⟨ret_bool (by unfold wrI' nuI; simp [rsI, Bool.and_assoc]), hb⟩
  by_cases h21 : o = 21
  · subst h21
    have := wr_21 w bs ba bc hp hz caps ah hA a b c d
    refine this.mono ?_
    rintro e w' ⟨rfl, hb⟩
    exact ⟨ret_bool (by unfold wrI' nuI; simp [rsI, Bool.and_assoc]), hb⟩
  by_cases h22 : o = 22
  · subst h22
    have := wr_22 w bs ba bc hp hz caps a b c d
    refine this.mono ?_
    rintro e w' ⟨rfl, hb⟩
    exact ⟨ret_bool (by unfold wrI' nuI; simp [rsI, Bool.and_assoc]), hb⟩
  by_cases h23 : o = 23
  · subst h23
    have := wr_23 w bs ba bc hp hz caps ah hA a b c d
    refine this.mono ?_
    rintro e w' ⟨rfl, hb⟩
    exact ⟨ret_bool (by unfold wrI' nuI; simp [rsI, Bool.and_assoc]), hb⟩
  by_cases h24 : o = 24
  · subst h24
    have := wr_24 w bs ba bc hp hz caps ah hA a b c d
    refine this.mono ?_
    rintro e w' ⟨rfl, hb⟩
    exact ⟨ret_bool (by unfold wrI' nuI; simp [rsI, Bool.and_assoc]), hb⟩
  by_cases h25 : o = 25
  · subst h25
    have := wr_25 w bs ba bc hp hz caps ah hA a b c d
    refine this.mono ?_
    rintro e w' ⟨rfl, hb⟩
    exact ⟨ret_bool (by unfold wrI' nuI; simp [rsI, Bool.and_assoc]), hb⟩
  have q16 : (o == 16) = false := by simpa using h16
  have q17 : (o == 17) = false := by simpa using h17
  have q18 : (o == 18) = false := by simpa using h18
  have q19 : (o == 19) = false := by simpa using h19
  have q20 : (o == 20) = false := by simpa using h20
  have q21 : (o == 21) = false := by simpa using h21
  have q22 : (o == 22) = false := by simpa using h22
  have q23 : (o == 23) = false := by simpa using h23
  have q24 : (o == 24) = false := by simpa using h24
  have q25 : (o == 25) = false := by simpa using h25
  have e : wrI' bs ah ⟨o, a, b, c, d⟩ = false := by
    unfold wrI'
    dsimp only
    rw [if_neg h16, decide_eq_false (by omega)]
    rfl
  rw [e]
  clear e hA hp hz hs hic h16 h17 h18 h19 h20 h21 h22 h23 h24 h25
  go_enter Tryd.func52, Tryd.ntmps52
  go_wp2
  go_ret
  exact ⟨rfl, by first | exact Below.refl _ _ | exact blBy⟩
def RsP (l : List LN) : Prop := ∀ i (h : i + 1 < l.length), l[i].tag < l[i + 1].tag
theorem doRiseB (w : World) (l : List LN) (la : Option Addr) (lc : Nat) (hl : RowS w AnyZ 2 (.slice la l.length lc) l.length (l.flatMap cLN)) : Calls Tryd.prog 30 #[.slice la l.length lc] w (EqA w (RsP l)) := by
  obtain ⟨_, _, e, hn⟩ := rowS_sl hl
  clear e
  have n63 : (l.length : Int) ≤ 9223372036854775807 := by omega
  have HR := hid hl
  clear hl
  go_enter Tryd.func30, Tryd.ntmps30
  go_wp2
  go_loopw [6] (fun r wr => ∃ j : Nat, r = .int .i64 j ∧ j ≤ l.length ∧ Hid (∀ i (h : i + 1 < l.length), i + 1 < j → l[i].tag < l[i + 1].tag) ∧ Hid (Below w.heap.size w wr)) (fun r wr => l.length - numAt wr r)
  case atStart => exact ⟨0, rfl, by omega, hid (fun i h hi => by omega), hid (Below.refl _ _)⟩
  case round =>
    obtain ⟨j, rfl, hj, HS, hb⟩ := hrel
    by_cases hlt : j < l.length
    · have h2 : (j : Int) < (l.length : Int) := by omega
      by_cases h0 : j = 0
      · subst h0
        have HS2 : Hid (∀ i (h : i + 1 < l.length), i + 1 < 1 → l[i].tag < l[i + 1].tag) := hid (fun i h hi => by omega)
        clear HS
        go_wp2
        first
          | exact ⟨⟨1, by simp, by omega, HS2, hb⟩, by simp [numAt]; omega⟩
          | (go_quiet (fail); go_wp2; exact ⟨⟨1, by simp, by omega, HS2, hid (bl_drewN hb.out _)⟩, by simp [numAt]; omega⟩)
      · obtain ⟨i, ei⟩ : ∃ i : Nat, i = j - 1 := ⟨_, rfl⟩
        have j4b : (j : Int) - 1 = (i : Int) := by omega
        have j4c : (i : Int) < (l.length : Int) := by omega
        have j4d : (0 < j) = True := eq_true (by omega)
        have j4e : ((0 : Int) < (j : Int)) = True := eq_true (by omega)
        have hil : i < l.length := by omega
        obtain ⟨g4, go4, eg, hc⟩ := rowAt (g := cLN) (fun _ => rfl) (HR.out.kept hb.out) (i := i) (x := l[i]) (by simp [hil])
        obtain ⟨g2, go2, eg2, hd⟩ := rowAt (g := cLN) (fun _ => rfl) (HR.out.kept hb.out) (i := j) (x := l[j]) (by simp [hlt])
        subst eg
        cases eg2
        have c0 := hc 0 _ rfl
        have c1 := hd 0 _ rfl
        clear hc hd
        simp only [Nat.add_zero] at c0 c1
        have hgb : g4 < wr.heap.size := World.block_lt_of_cell? _ _ c0
        have HNX : Hid (l[i].tag < l[j].tag → ∀ k (h : k + 1 < l.length), k + 1 < j + 1 → l[k].tag < l[k + 1].tag) := hid (fun ht k h hi => by
          by_cases e : k + 1 = j
          · have e2 : i = k := by omega
            subst e2; subst e; exact ht
          · exact HS.out k h (by omega))
        have HNO : Hid (¬ l[i].tag < l[j].tag → ¬ RsP l) := hid (fun ht hp => by
          obtain rfl : j = i + 1 := by omega
          exact ht (hp i hlt))
        clear HS ei
        generalize l[i].tag = x at *
        generalize l[j].tag = y at *
        by_cases hxy : x < y
        · have f1 : (y ≤ x) = False := eq_false (by omega)
          have HS2 := hid (HNX.out hxy)
          clear HNX HNO
          go_wp2
          first
            | exact ⟨⟨j + 1, by simp, by omega, HS2, hb⟩, by simp [numAt]; omega⟩
            | (go_quiet (fail); go_wp2; exact ⟨⟨j + 1, by simp, by omega, HS2, hid (bl_drewN hb.out _)⟩, by simp [numAt]; omega⟩)
        · have f1 : (y ≤ x) = True := eq_true (by omega)
          have HF := hid (HNO.out hxy)
          clear HNX HNO
          go_wp2
          first
            | (go_ret; exact EqA.no HF.out hb.out)
            | (go_quiet (fail); go_wp2; go_ret; exact EqA.no HF.out (by have := hb.out; first | exact bl_drewN this _ | exact this))
    · have h2 : ¬ (j : Int) < (l.length : Int) := by omega
      have HE : Hid (RsP l) := hid (fun i h => HS.out i h (by omega))
      clear HS
      go_wp2
      go_ret
      exact EqA.yes HE.out hb.out
def syI (x : LN) : Bool := decide (x.pl = 0 ∧ 0 ≤ x.tag ∧ x.tag ≤ 2147483647)
theorem isNoneB (w : World) (x : LN) : Calls Tryd.prog 47 #[.agg #[.int .i64 x.tag, .int .i64 x.pl]] w (BoA w (!syI x)) := by
  obtain ⟨t, p⟩ := x
  have hgd := gdLN
  by_cases hp : p = 0
  · subst hp
    have heq : ∀ W, (Op.equalIn 10000 50 (.agg #[.int .i64 t, .int .i64 0]) (.agg #[.int .i64 t, .int .i64 0])).run Tryd.prog W = .ok true W := fun W => by
      have := eqLN ⟨t, 0⟩ ⟨t, 0⟩ W
      rw [(lnB_iff _ _).2 rfl] at this
      exact this
    by_cases h1 : t < 0
    · have r1 : (t < 0) = True := eq_true h1
      have e : syI ⟨t, 0⟩ = false := by unfold syI; exact decide_eq_false (by dsimp only; omega)
      rw [e]
      clear e h1
      go_enter Tryd.func47, Tryd.ntmps47
      go_wp2
      go_ret
      exact ⟨rfl, by exact blBy⟩
    · have r1 : (t < 0) = False := eq_false h1
      by_cases h2 : 2147483647 < t
      · have r2 : (2147483647 < t) = True := eq_true h2
        have e : syI ⟨t, 0⟩ = false := by unfold syI; exact decide_eq_false (by dsimp only; omega)
        rw [e]
        clear e h1 h2
        go_enter Tryd.func47, Tryd.ntmps47
        go_wp2
        go_ret
        exact ⟨rfl, by exact blBy⟩
      · have r2 : (2147483647 < t) = False := eq_false h2
        have e : syI ⟨t, 0⟩ = true := by unfold syI; exact decide_eq_true (by dsimp only; omega)
        rw [e]
        clear e h1 h2
        go_enter Tryd.func47, Tryd.ntmps47
        go_wp2
        go_ret
        exact ⟨rfl, by exact blBy⟩
  · have heq : ∀ W, (Op.equalIn 10000 50 (.agg #[.int .i64 t, .int .i64 p]) (.agg #[.int .i64 t, .int .i64 0])).run Tryd.prog W = .ok false W := fun W => by
      have := eqLN ⟨t, p⟩ ⟨t, 0⟩ W
      have e : lnB ⟨t, p⟩ ⟨t, 0⟩ = false := by simp [lnB, hp]
      rw [e] at this
      exact this
    have e : syI ⟨t, p⟩ = false := by unfold syI; exact decide_eq_false (by dsimp only; omega)
    rw [e]
    clear e hp
    go_enter Tryd.func47, Tryd.ntmps47
    go_wp2
    go_ret
    exact ⟨rfl, by exact blBy⟩
def IxA (w : World) (l : List LN) (p : LN → Bool) (e : Ending) (w' : World) : Prop := Below w.heap.size w w' ∧ ((e = .returned (.int .i64 (-1)) ∧ l.any p = false) ∨ ∃ j : Nat, e = .returned (.int .i64 (j : Int)) ∧ l.any p = true)
theorem idxLineB (w : World) (l : List LN) (la : Option Addr) (lc : Nat) (hl : RowS w AnyZ 2 (.slice la l.length lc) l.length (l.flatMap cLN)) (fn : FuncId) (caps : Array Value) (p : LN → Bool) (hcf : ∀ (args : Array Value) (W : World), (callFunc fn args).run Tryd.prog W = .ok (.enter fn args) W) (hc : ∀ x ∈ l, ∀ W, Below w.heap.size w W → Calls Tryd.prog fn (#[.agg #[.int .i64 x.tag, .int .i64 x.pl]] ++ caps) W (BoA W (p x))) : Calls Tryd.prog 63 #[.slice la l.length lc, .func (.func fn) #[] caps] w (IxA w l p) := by
  obtain ⟨_, _, e, hn⟩ := rowS_sl hl
  clear e
  have n63 : (l.length : Int) ≤ 9223372036854775807 := by omega
  have HR := hid hl
  have HC := hid hc
  clear hl hc
  go_enter Tryd.func63, Tryd.ntmps63
  go_wp2
  go_loopw [8] (fun r wr => ∃ j : Nat, r = .int .i64 j ∧ j ≤ l.length ∧ Hid (∀ i (h : i < l.length), i < j → p l[i] = false) ∧ Hid (Below w.heap.size w wr)) (fun r wr => l.length - numAt wr r)
  case atStart => exact ⟨0, rfl, by omega, hid (fun i h hi => by omega), hid (Below.refl _ _)⟩
  case round =>
    obtain ⟨j, rfl, hj, HS, hb⟩ := hrel
    by_cases hlt : j < l.length
    · have h2 : (j : Int) < (l.length : Int) := by omega
      obtain ⟨pb, po, epb, hcc⟩ := rowAt (g := cLN) (fun _ => rfl) (HR.out.kept hb.out) (i := j) (x := l[j]) (by simp [hlt])
      subst epb
      have c0 := hcc 0 _ rfl
      have c1 := hcc 1 _ rfl
      clear hcc
      simp only [Nat.add_zero] at c0
      have hpb : pb < wr.heap.size := World.block_lt_of_cell? _ _ c0
      have HCJ := hid (HC.out _ (List.getElem_mem hlt) wr hb.out)
      have HNX : Hid (p l[j] = false → ∀ i (h : i < l.length), i < j + 1 → p l[i] = false) := hid (fun ht i h hi => by
        by_cases e : i = j
        · subst e; exact ht
        · exact HS.out i h (by omega))
      have HNO : Hid (p l[j] = true → l.any p = true) := hid (fun ht => List.any_eq_true.2 ⟨_, List.getElem_mem hlt, ht⟩)
      clear HS
      generalize l[j] = x at *
      cases hpx : p x
      · rw [hpx] at HCJ
        have HS2 := hid (HNX.out hpx)
        clear HNX HNO hpx
        go_wp2_with fail
        refine HCJ.out.mono ?_
        rintro e w1 ⟨rfl, hb1⟩
        have HB1 := hid (bl_then hb.out hb1)
        go_wp2
        exact ⟨⟨j + 1, by simp, by omega, HS2, HB1⟩, by simp [numAt]; omega⟩
      · rw [hpx] at HCJ
        have HF := hid (HNO.out hpx)
        clear HNX HNO hpx
        go_wp2_with fail
        refine HCJ.out.mono ?_
        rintro e w1 ⟨rfl, hb1⟩
        have HB1 := hid (bl_then hb.out hb1)
        go_wp2
        go_ret
        exact ⟨HB1.out, .inr ⟨j, rfl, HF.out⟩⟩
    · have h2 : ¬ (j : Int) < (l.length : Int) := by omega
      have HE : Hid (l.any p = false) := hid (by
        rw [List.any_eq_false]
        intro x hx
        obtain ⟨i, hi, rfl⟩ := List.getElem_of_mem hx
        simp [HS.out i hi (by omega)])
      clear HS
      go_wp2
      go_ret
      exact ⟨hb.out, .inl ⟨rfl, HE.out⟩⟩
theorem conLineB (w : World) (l : List LN) (la : Option Addr) (lc : Nat) (hl : RowS w AnyZ 2 (.slice la l.length lc) l.length (l.flatMap cLN)) (fn : FuncId) (caps : Array Value) (p : LN → Bool) (hcf : ∀ (args : Array Value) (W : World), (callFunc fn args).run Tryd.prog W = .ok (.enter fn args) W) (hc : ∀ x ∈ l, ∀ W, Below w.heap.size w W → Calls Tryd.prog fn (#[.agg #[.int .i64 x.tag, .int .i64 x.pl]] ++ caps) W (BoA W (p x))) : Calls Tryd.prog 48 #[.slice la l.length lc, .func (.func fn) #[] caps] w (BoA w (l.any p)) := by
  have HI := hid (idxLineB w l la lc hl fn caps p hcf hc)
  clear hl hc
  go_enter Tryd.func48, Tryd.ntmps48
  go_wp2_with fail
  refine HI.out.mono ?_
  rintro e w1 ⟨hb1, ⟨rfl, hq⟩ | ⟨j, rfl, hq⟩⟩
  · go_wp2
    go_ret
    exact ⟨by rw [hq]; rfl, hb1⟩
  · have k0 : ((0 : Int) ≤ (j : Int)) = True := eq_true (by omega)
    go_wp2
    go_ret
    exact ⟨by rw [hq]; rfl, hb1⟩
theorem areSymbolsB (w : World) (l : List LN) (la : Option Addr) (lc : Nat) (hl : RowS w AnyZ 2 (.slice la l.length lc) l.length (l.flatMap cLN)) : Calls Tryd.prog 32 #[.slice la l.length lc] w (BoA w (decide (0 < l.length ∧ l.length ≤ 128) && !l.any (fun x => !syI x))) := by
  obtain ⟨_, _, e, hn⟩ := rowS_sl hl
  clear e
  have n63 : (l.length : Int) ≤ 9223372036854775807 := by omega
  have HC : Hid (∀ W, Below w.heap.size w W → Calls Tryd.prog 48 #[.slice la l.length lc, .func (.func 47) #[] #[]] W (BoA W (l.any (fun x => !syI x)))) := hid fun W hW => conLineB W l la lc (hl.kept hW) _ _ _ cfNone (fun x hx W' _ => isNoneB W' x)
  clear hl hn
  generalize l.any (fun x => !syI x) = q at *
  by_cases h0 : 0 < l.length
  · have r1 : (0 : Int) < (l.length : Int) := by omega
    have r3 : (0 < l.length) = True := eq_true h0
    by_cases h1 : l.length ≤ 128
    · have r2 : ((l.length : Int) ≤ 128) = True := eq_true (by omega)
      rw [decide_eq_true (⟨h0, h1⟩ : 0 < l.length ∧ l.length ≤ 128), Bool.true_and]
      clear h0 h1
      go_enter Tryd.func32, Tryd.ntmps32
      go_wp2_with fail
      refine (HC.out _ (by first | exact Below.refl _ _ | exact blBy)).mono ?_
      rintro e w1 ⟨rfl, hb1⟩
      go_wp2
      go_ret
      exact ⟨by first | rfl | simp, hb1⟩
    · have r2 : ((l.length : Int) ≤ 128) = False := eq_false (by omega)
      rw [decide_eq_false (by omega : ¬ (0 < l.length ∧ l.length ≤ 128)), Bool.false_and]
      clear h0 h1 HC
      go_enter Tryd.func32, Tryd.ntmps32
      go_wp2
      go_ret
      exact ⟨rfl, by first | exact Below.refl _ _ | exact blBy⟩
  · have e0 : l.length = 0 := by omega
    rw [decide_eq_false (by omega : ¬ (0 < l.length ∧ l.length ≤ 128)), Bool.false_and]
    clear HC
    rw [e0]
    clear h0 e0 n63
    go_enter Tryd.func32, Tryd.ntmps32
    go_wp2
    go_ret
    exact ⟨rfl, by first | exact Below.refl _ _ | exact blBy⟩
end Go.Proofs.YtpndejibjiojbaaDoor
