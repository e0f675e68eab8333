/-
  What a valid program's steps are asked: where all is well, operation by operation.
-/
import Derived.Test.YtliohglpbmpbhaaCOPw
namespace Go.Proofs.Ytliohglpbmpbhaa
open Go.RowKit
set_option maxRecDepth 1000000
set_option linter.unusedVariables false
set_option linter.unusedSimpArgs false
set_option maxHeartbeats 1000000
theorem wrHas0 (w : World) (bs : List BV) (ba : Option Addr) (bc : Nat) (caps : Array Value) (a b : Int) (hf : 1 ≤ a ∧ a ≤ 536870911) (hA : ∀ W, Below w.heap.size w W → Calls Try.prog 69 (#[.int .i64 b] ++ caps) W fun e w' => e = .returned (.bool true) ∧ Below W.heap.size W w') : Calls Try.prog 70 #[.slice ba bs.length bc, .agg #[.int .i64 16, .int .i64 a, .int .i64 b, .int .i64 0, .int .i64 0], .func (.func 69) #[] caps] w fun e w' => e = .returned (.bool true) ∧ Below w.heap.size w w' := by
  have HS : Hid (∀ W zb, Blk W zb 3 (ints [a, b, 0]) → Calls Try.prog 84 #[.int .i64 16, .slice (some ⟨zb, 0, none⟩) 3 3] W fun e w' => e = .returned (.agg #[.int .i64 16, .int .i64 a, .int .i64 b, .int .i64 0, .int .i64 0]) ∧ Below W.heap.size W w') := hid fun W zb hB => stepL W 16 [a, b, 0] (by simp) zb hB
  have heq : ∀ W, (Op.equalIn 10000 42 (.agg #[.int .i64 16, .int .i64 a, .int .i64 b, .int .i64 0, .int .i64 0]) (.agg #[.int .i64 16, .int .i64 a, .int .i64 b, .int .i64 0, .int .i64 0])).run Try.prog W = .ok true W := fun W => by
    have := eqIN ⟨16, a, b, 0, 0⟩ ⟨16, a, b, 0, 0⟩ W
    rw [(inB_iff _ _).2 rfl] at this
    exact this
  have hgd := gdIN
  have HF := hid (isFieldT · a hf)
  have HA := hid hA
  go_enter Try.func70, Try.ntmps70
  go_wp2_with fail
  have Bs : Blk (w.alloc (.cells #[.int .i64 16, .int .i64 a, .int .i64 b, .int .i64 0, .int .i64 0] 42)) w.heap.size 42 #[.int .i64 16, .int .i64 a, .int .i64 b, .int .i64 0, .int .i64 0] := Blk.new _ _ _
  have HB : Hid (Below w.heap.size w (w.alloc (.cells #[.int .i64 16, .int .i64 a, .int .i64 b, .int .i64 0, .int .i64 0] 42))) := hid (by exact blBy)
  generalize w.alloc (.cells #[.int .i64 16, .int .i64 a, .int .i64 b, .int .i64 0, .int .i64 0] 42) = V at *
  have e0 := Bs.cell 0 _ rfl
  have e1 := Bs.cell 1 _ rfl
  have e2 := Bs.cell 2 _ rfl
  have e3 := Bs.cell 3 _ rfl
  have e4 := Bs.cell 4 _ rfl
  simp only [List.getElem_toArray, List.getElem_cons_succ, List.getElem_cons_zero] at e0 e1 e2 e3 e4
  clear Bs
  refine wp_region_held_drew (S := fun W => W.cell? ⟨w.heap.size, 0, none⟩ = some (.int .i64 16) ∧ W.cell? ⟨w.heap.size, 1, none⟩ = some (.int .i64 a) ∧ W.cell? ⟨w.heap.size, 2, none⟩ = some (.int .i64 b) ∧ W.cell? ⟨w.heap.size, 3, none⟩ = some (.int .i64 0) ∧ W.cell? ⟨w.heap.size, 4, none⟩ = some (.int .i64 0)) (by kernel_rfl) ?_ (fun hHeld => ?_)
  · exact ⟨e0, e1, e2, e3, e4⟩
  refine wpAnyH_take (i := 0) (v := ?_) rfl (by kernel_rfl) (by kernel_rfl) (by kernel_rfl) (fun _ _ _ h => h) (Or.inl ⟨by rfl, ?_⟩) (by assumption) ?_
  rotate_left
  · (intro w hSw; (try dsimp only at hSw); go_simp; (try with_reducible rfl))
  try simp only [Act.put, List.getElem_toArray, List.getElem_cons_succ, List.getElem_cons_zero, List.setIfInBounds_toArray, List.set_cons_zero, List.set_cons_succ]
  refine wpAnyH_take (i := 1) (v := ?_) rfl (by kernel_rfl) (by kernel_rfl) (by kernel_rfl) (fun _ _ _ h => h) (Or.inl ⟨by rfl, ?_⟩) (by assumption) ?_
  rotate_left
  · (intro w hSw; (try dsimp only at hSw); go_simp; (try with_reducible rfl))
  try simp only [Act.put, List.getElem_toArray, List.getElem_cons_succ, List.getElem_cons_zero, List.setIfInBounds_toArray, List.set_cons_zero, List.set_cons_succ]
  refine wpAnyH_take (i := 2) (v := ?_) rfl (by kernel_rfl) (by kernel_rfl) (by kernel_rfl) (fun _ _ _ h => h) (Or.inl ⟨by rfl, ?_⟩) (by assumption) ?_
  rotate_left
  · (intro w hSw; (try dsimp only at hSw); go_simp; (try with_reducible rfl))
  try simp only [Act.put, List.getElem_toArray, List.getElem_cons_succ, List.getElem_cons_zero, List.setIfInBounds_toArray, List.set_cons_zero, List.set_cons_succ]
  refine wpAnyH_take (i := 3) (v := ?_) rfl (by kernel_rfl) (by kernel_rfl) (by kernel_rfl) (fun _ _ _ h => h) (Or.inl ⟨by rfl, ?_⟩) (by assumption) ?_
  rotate_left
  · (intro w hSw; (try dsimp only at hSw); go_simp; (try with_reducible rfl))
  try simp only [Act.put, List.getElem_toArray, List.getElem_cons_succ, List.getElem_cons_zero, List.setIfInBounds_toArray, List.set_cons_zero, List.set_cons_succ]
  refine wpAnyH_take (i := 4) (v := ?_) rfl (by kernel_rfl) (by kernel_rfl) (by kernel_rfl) (fun _ _ _ h => h) (Or.inl ⟨by rfl, ?_⟩) (by assumption) ?_
  rotate_left
  · (intro w hSw; (try dsimp only at hSw); go_simp; (try with_reducible rfl))
  try simp only [Act.put, List.getElem_toArray, List.getElem_cons_succ, List.getElem_cons_zero, List.setIfInBounds_toArray, List.set_cons_zero, List.set_cons_succ]
  refine wpAnyH_take (i := 5) (v := ?_) rfl (by kernel_rfl) (by kernel_rfl) (by kernel_rfl) (fun _ _ _ h => h) (Or.inl ⟨by rfl, ?_⟩) (by assumption) ?_
  rotate_left
  · (intro w hSw; (try dsimp only at hSw); go_simp; (try with_reducible rfl))
  try simp only [Act.put, List.getElem_toArray, List.getElem_cons_succ, List.getElem_cons_zero, List.setIfInBounds_toArray, List.set_cons_zero, List.set_cons_succ]
  refine wpAnyH_take (i := 6) (v := ?_) rfl (by kernel_rfl) (by kernel_rfl) (by kernel_rfl) (fun _ _ _ h => h) (Or.inl ⟨by rfl, ?_⟩) (by assumption) ?_
  rotate_left
  · (intro w hSw; (try dsimp only at hSw); go_simp; (try with_reducible rfl))
  try simp only [Act.put, List.getElem_toArray, List.getElem_cons_succ, List.getElem_cons_zero, List.setIfInBounds_toArray, List.set_cons_zero, List.set_cons_succ]
  refine wpAnyH_take (i := 7) (v := ?_) rfl (by kernel_rfl) (by kernel_rfl) (by kernel_rfl) (fun _ _ _ h => h) (Or.inl ⟨by rfl, ?_⟩) (by assumption) ?_
  rotate_left
  · (intro w hSw; (try dsimp only at hSw); go_simp; (try with_reducible rfl))
  try simp only [Act.put, List.getElem_toArray, List.getElem_cons_succ, List.getElem_cons_zero, List.setIfInBounds_toArray, List.set_cons_zero, List.set_cons_succ]
  refine wpAnyH_take (i := 8) (v := ?_) rfl (by kernel_rfl) (by kernel_rfl) (by kernel_rfl) (fun _ _ _ h => h) (Or.inl ⟨by rfl, ?_⟩) (by assumption) ?_
  rotate_left
  · (intro w hSw; (try dsimp only at hSw); go_simp; (try with_reducible rfl))
  try simp only [Act.put, List.getElem_toArray, List.getElem_cons_succ, List.getElem_cons_zero, List.setIfInBounds_toArray, List.set_cons_zero, List.set_cons_succ]
  refine wpAnyH_ready (rs := [9]) (by kernel_rfl) (by simp) ?_
  refine AllReadyH.cons rfl (fun K hK => ?_) AllReadyH.nil
  go_simp
  refine hK.out _ _ ?_ (fun hHeld => ?_)
  · first | exact ⟨e0, e1, e2, e3, e4⟩ | exact ⟨cell_below e0 (bl_drew (below_alloc _)), cell_below e1 (bl_drew (below_alloc _)), cell_below e2 (bl_drew (below_alloc _)), cell_below e3 (bl_drew (below_alloc _)), cell_below e4 (bl_drew (below_alloc _))⟩ | exact ⟨cell_below e0 (below_alloc _), cell_below e1 (below_alloc _), cell_below e2 (below_alloc _), cell_below e3 (below_alloc _), cell_below e4 (below_alloc _)⟩
  clear hK K
  try simp only [Act.put, List.getElem_toArray, List.getElem_cons_succ, List.getElem_cons_zero, List.setIfInBounds_toArray, List.set_cons_zero, List.set_cons_succ]
  refine wpAnyH_ready (rs := [10]) (by kernel_rfl) (by simp) ?_
  refine AllReadyH.cons rfl (fun K hK => ?_) AllReadyH.nil
  go_simp
  go_wp2_with (go_at_call 84; refine (HS.out _ _ ((Blk.new _ _ _).kept (below_drew1 _))).mono ?_; rintro e w1 ⟨rfl, hbx⟩; replace e0 := cell_below e0 (below_trans (by first | exact Below.refl _ _ | exact below_drew1 _ | exact below_drewN _ _ | exact bl_drew (below_alloc _)) hbx); replace e1 := cell_below e1 (below_trans (by first | exact Below.refl _ _ | exact below_drew1 _ | exact below_drewN _ _ | exact bl_drew (below_alloc _)) hbx); replace e2 := cell_below e2 (below_trans (by first | exact Below.refl _ _ | exact below_drew1 _ | exact below_drewN _ _ | exact bl_drew (below_alloc _)) hbx); replace e3 := cell_below e3 (below_trans (by first | exact Below.refl _ _ | exact below_drew1 _ | exact below_drewN _ _ | exact bl_drew (below_alloc _)) hbx); replace e4 := cell_below e4 (below_trans (by first | exact Below.refl _ _ | exact below_drew1 _ | exact below_drewN _ _ | exact bl_drew (below_alloc _)) hbx); replace HB := hid (below_trans HB.out (below_trans (by first | exact Below.refl _ _ | exact below_drew1 _ | exact below_drewN _ _ | exact bl_drew (below_alloc _)) hbx)); clear hbx)
  refine hK.out _ _ ?_ (fun hHeld => ?_)
  · first | exact ⟨e0, e1, e2, e3, e4⟩ | exact ⟨cell_below e0 (bl_drew (below_alloc _)), cell_below e1 (bl_drew (below_alloc _)), cell_below e2 (bl_drew (below_alloc _)), cell_below e3 (bl_drew (below_alloc _)), cell_below e4 (bl_drew (below_alloc _))⟩ | exact ⟨cell_below e0 (below_alloc _), cell_below e1 (below_alloc _), cell_below e2 (below_alloc _), cell_below e3 (below_alloc _), cell_below e4 (below_alloc _)⟩
  clear hK K
  try simp only [Act.put, List.getElem_toArray, List.getElem_cons_succ, List.getElem_cons_zero, List.setIfInBounds_toArray, List.set_cons_zero, List.set_cons_succ]
  refine wpAnyH_take (i := 11) (v := ?_) rfl (by kernel_rfl) (by kernel_rfl) (by kernel_rfl) (fun _ _ _ h => h) (Or.inl ⟨by rfl, ?_⟩) (by assumption) ?_
  rotate_left
  · (intro w hSw; (try dsimp only at hSw); go_simp; (try with_reducible rfl))
  try simp only [Act.put, List.getElem_toArray, List.getElem_cons_succ, List.getElem_cons_zero, List.setIfInBounds_toArray, List.set_cons_zero, List.set_cons_succ]
  refine wpAnyH_take (i := 12) (v := ?_) rfl (by kernel_rfl) (by kernel_rfl) (by kernel_rfl) (fun _ _ _ h => h) (Or.inl ⟨by rfl, ?_⟩) (by assumption) ?_
  rotate_left
  · (intro w hSw; (try dsimp only at hSw); go_simp; (try with_reducible rfl))
  try simp only [Act.put, List.getElem_toArray, List.getElem_cons_succ, List.getElem_cons_zero, List.setIfInBounds_toArray, List.set_cons_zero, List.set_cons_succ]
  refine wpAnyH_take (i := 13) (v := ?_) rfl (by kernel_rfl) (by kernel_rfl) (by kernel_rfl) (fun _ _ _ h => h) (Or.inl ⟨by rfl, ?_⟩) (by assumption) ?_
  rotate_left
  · (intro w hSw; (try dsimp only at hSw); go_simp; (try with_reducible rfl))
  try simp only [Act.put, List.getElem_toArray, List.getElem_cons_succ, List.getElem_cons_zero, List.setIfInBounds_toArray, List.set_cons_zero, List.set_cons_succ]
  refine wpAnyH_take (i := 14) (v := ?_) rfl (by kernel_rfl) (by kernel_rfl) (by kernel_rfl) (fun _ _ _ h => h) (Or.inl ⟨by rfl, ?_⟩) (by assumption) ?_
  rotate_left
  · (intro w hSw; (try dsimp only at hSw); go_simp; (try with_reducible rfl))
  try simp only [Act.put, List.getElem_toArray, List.getElem_cons_succ, List.getElem_cons_zero, List.setIfInBounds_toArray, List.set_cons_zero, List.set_cons_succ]
  refine wpAnyH_ready (rs := [15]) (by kernel_rfl) (by simp) ?_
  refine AllReadyH.cons rfl (fun K hK => ?_) AllReadyH.nil
  go_simp
  go_wp2_with (go_at_call 87; refine (HF.out _).mono ?_; rintro e w2 ⟨rfl, rfl⟩)
  refine hK.out _ _ ?_ (fun hHeld => ?_)
  · first | exact ⟨e0, e1, e2, e3, e4⟩ | exact ⟨cell_below e0 (bl_drew (below_alloc _)), cell_below e1 (bl_drew (below_alloc _)), cell_below e2 (bl_drew (below_alloc _)), cell_below e3 (bl_drew (below_alloc _)), cell_below e4 (bl_drew (below_alloc _))⟩ | exact ⟨cell_below e0 (below_alloc _), cell_below e1 (below_alloc _), cell_below e2 (below_alloc _), cell_below e3 (below_alloc _), cell_below e4 (below_alloc _)⟩
  clear hK K
  try simp only [Act.put, List.getElem_toArray, List.getElem_cons_succ, List.getElem_cons_zero, List.setIfInBounds_toArray, List.set_cons_zero, List.set_cons_succ]
  refine wpAnyH_take (i := 16) (v := ?_) rfl (by kernel_rfl) (by kernel_rfl) (by kernel_rfl) (fun _ _ _ h => h) (Or.inl ⟨by rfl, ?_⟩) (by assumption) ?_
  rotate_left
  · (intro w hSw; (try dsimp only at hSw); go_simp; (try with_reducible rfl))
  try simp only [Act.put, List.getElem_toArray, List.getElem_cons_succ, List.getElem_cons_zero, List.setIfInBounds_toArray, List.set_cons_zero, List.set_cons_succ]
  refine wpAnyH_take (i := 17) (v := ?_) rfl (by kernel_rfl) (by kernel_rfl) (by kernel_rfl) (fun _ _ _ h => h) (Or.inl ⟨by rfl, ?_⟩) (by assumption) ?_
  rotate_left
  · (intro w hSw; (try dsimp only at hSw); go_simp; (try with_reducible rfl))
  try simp only [Act.put, List.getElem_toArray, List.getElem_cons_succ, List.getElem_cons_zero, List.setIfInBounds_toArray, List.set_cons_zero, List.set_cons_succ]
  refine wpAnyH_take (i := 18) (v := ?_) rfl (by kernel_rfl) (by kernel_rfl) (by kernel_rfl) (fun _ _ _ h => h) (Or.inl ⟨by rfl, ?_⟩) (by assumption) ?_
  rotate_left
  · (intro w hSw; (try dsimp only at hSw); go_simp; (try with_reducible rfl))
  try simp only [Act.put, List.getElem_toArray, List.getElem_cons_succ, List.getElem_cons_zero, List.setIfInBounds_toArray, List.set_cons_zero, List.set_cons_succ]
  refine wpAnyH_take (i := 19) (v := ?_) rfl (by kernel_rfl) (by kernel_rfl) (by kernel_rfl) (fun _ _ _ h => h) (Or.inl ⟨by rfl, ?_⟩) (by assumption) ?_
  rotate_left
  · (intro w hSw; (try dsimp only at hSw); go_simp; (try with_reducible rfl))
  try simp only [Act.put, List.getElem_toArray, List.getElem_cons_succ, List.getElem_cons_zero, List.setIfInBounds_toArray, List.set_cons_zero, List.set_cons_succ]
  refine wpAnyH_take (i := 20) (v := ?_) rfl (by kernel_rfl) (by kernel_rfl) (by kernel_rfl) (fun _ _ _ h => h) (Or.inl ⟨by rfl, ?_⟩) (by assumption) ?_
  rotate_left
  · (intro w hSw; (try dsimp only at hSw); go_simp; (try with_reducible rfl))
  try simp only [Act.put, List.getElem_toArray, List.getElem_cons_succ, List.getElem_cons_zero, List.setIfInBounds_toArray, List.set_cons_zero, List.set_cons_succ]
  refine wpAnyH_ready (rs := [21]) (by kernel_rfl) (by simp) ?_
  refine AllReadyH.cons rfl (fun K hK => ?_) AllReadyH.nil
  go_simp
  go_wp2_with (go_at_call 69; refine (HA.out _ (below_trans HB.out (by first | exact Below.refl _ _ | exact below_drew1 _ | exact below_drewN _ _))).mono ?_; rintro e w2 ⟨rfl, hbx⟩; replace e0 := cell_below e0 (below_trans (by first | exact Below.refl _ _ | exact below_drew1 _ | exact below_drewN _ _ | exact bl_drew (below_alloc _)) hbx); replace e1 := cell_below e1 (below_trans (by first | exact Below.refl _ _ | exact below_drew1 _ | exact below_drewN _ _ | exact bl_drew (below_alloc _)) hbx); replace e2 := cell_below e2 (below_trans (by first | exact Below.refl _ _ | exact below_drew1 _ | exact below_drewN _ _ | exact bl_drew (below_alloc _)) hbx); replace e3 := cell_below e3 (below_trans (by first | exact Below.refl _ _ | exact below_drew1 _ | exact below_drewN _ _ | exact bl_drew (below_alloc _)) hbx); replace e4 := cell_below e4 (below_trans (by first | exact Below.refl _ _ | exact below_drew1 _ | exact below_drewN _ _ | exact bl_drew (below_alloc _)) hbx); replace HB := hid (below_trans HB.out (below_trans (by first | exact Below.refl _ _ | exact below_drew1 _ | exact below_drewN _ _ | exact bl_drew (below_alloc _)) hbx)); clear hbx)
  refine hK.out _ _ ?_ (fun hHeld => ?_)
  · first | exact ⟨e0, e1, e2, e3, e4⟩ | exact ⟨cell_below e0 (bl_drew (below_alloc _)), cell_below e1 (bl_drew (below_alloc _)), cell_below e2 (bl_drew (below_alloc _)), cell_below e3 (bl_drew (below_alloc _)), cell_below e4 (bl_drew (below_alloc _))⟩ | exact ⟨cell_below e0 (below_alloc _), cell_below e1 (below_alloc _), cell_below e2 (below_alloc _), cell_below e3 (below_alloc _), cell_below e4 (below_alloc _)⟩
  clear hK K
  try simp only [Act.put, List.getElem_toArray, List.getElem_cons_succ, List.getElem_cons_zero, List.setIfInBounds_toArray, List.set_cons_zero, List.set_cons_succ]
  refine wpAnyH_take (i := 22) (v := ?_) rfl (by kernel_rfl) (by kernel_rfl) (by kernel_rfl) (fun _ _ _ h => h) (Or.inl ⟨by rfl, ?_⟩) (by assumption) ?_
  rotate_left
  · (intro w hSw; (try dsimp only at hSw); go_simp; (try with_reducible rfl))
  try simp only [Act.put, List.getElem_toArray, List.getElem_cons_succ, List.getElem_cons_zero, List.setIfInBounds_toArray, List.set_cons_zero, List.set_cons_succ]
  refine wpAnyH_take (i := 23) (v := ?_) rfl (by kernel_rfl) (by kernel_rfl) (by kernel_rfl) (fun _ _ _ h => h) (Or.inl ⟨by rfl, ?_⟩) (by assumption) ?_
  rotate_left
  · (intro w hSw; (try dsimp only at hSw); go_simp; (try with_reducible rfl))
  try simp only [Act.put, List.getElem_toArray, List.getElem_cons_succ, List.getElem_cons_zero, List.setIfInBounds_toArray, List.set_cons_zero, List.set_cons_succ]
  refine wpAnyH_take (i := 24) (v := ?_) rfl (by kernel_rfl) (by kernel_rfl) (by kernel_rfl) (fun _ _ _ h => h) (Or.inl ⟨by rfl, ?_⟩) (by assumption) ?_
  rotate_left
  · (intro w hSw; (try dsimp only at hSw); go_simp; (try with_reducible rfl))
  try simp only [Act.put, List.getElem_toArray, List.getElem_cons_succ, List.getElem_cons_zero, List.setIfInBounds_toArray, List.set_cons_zero, List.set_cons_succ]
  refine wpAnyH_take (i := 25) (v := ?_) rfl (by kernel_rfl) (by kernel_rfl) (by kernel_rfl) (fun _ _ _ h => h) (Or.inl ⟨by rfl, ?_⟩) (by assumption) ?_
  rotate_left
  · (intro w hSw; (try dsimp only at hSw); go_simp; (try with_reducible rfl))
  try simp only [Act.put, List.getElem_toArray, List.getElem_cons_succ, List.getElem_cons_zero, List.setIfInBounds_toArray, List.set_cons_zero, List.set_cons_succ]
  refine wpAnyH_take (i := 26) (v := ?_) rfl (by kernel_rfl) (by kernel_rfl) (by kernel_rfl) (fun _ _ _ h => h) (Or.inl ⟨by rfl, ?_⟩) (by assumption) ?_
  rotate_left
  · (intro w hSw; (try dsimp only at hSw); go_simp; (try with_reducible rfl))
  try simp only [Act.put, List.getElem_toArray, List.getElem_cons_succ, List.getElem_cons_zero, List.setIfInBounds_toArray, List.set_cons_zero, List.set_cons_succ]
  refine wpAnyH_take (i := 27) (v := ?_) rfl (by kernel_rfl) (by kernel_rfl) (by kernel_rfl) (fun _ _ _ h => h) (Or.inl ⟨by rfl, ?_⟩) (by assumption) ?_
  rotate_left
  · (intro w hSw; (try dsimp only at hSw); go_simp; (try with_reducible rfl))
  try simp only [Act.put, List.getElem_toArray, List.getElem_cons_succ, List.getElem_cons_zero, List.setIfInBounds_toArray, List.set_cons_zero, List.set_cons_succ]
  refine wpAnyH_take (i := 28) (v := undef) rfl (by kernel_rfl) (by kernel_rfl) (by kernel_rfl) (fun _ _ _ h => h) (Or.inr ⟨by kernel_rfl, rfl⟩) (by assumption) ?_
  try simp only [Act.put, List.getElem_toArray, List.getElem_cons_succ, List.getElem_cons_zero, List.setIfInBounds_toArray, List.set_cons_zero, List.set_cons_succ]
  refine wpAnyH_take (i := 29) (v := undef) rfl (by kernel_rfl) (by kernel_rfl) (by kernel_rfl) (fun _ _ _ h => h) (Or.inr ⟨by kernel_rfl, rfl⟩) (by assumption) ?_
  try simp only [Act.put, List.getElem_toArray, List.getElem_cons_succ, List.getElem_cons_zero, List.setIfInBounds_toArray, List.set_cons_zero, List.set_cons_succ]
  refine wpAnyH_take (i := 30) (v := undef) rfl (by kernel_rfl) (by kernel_rfl) (by kernel_rfl) (fun _ _ _ h => h) (Or.inr ⟨by kernel_rfl, rfl⟩) (by assumption) ?_
  try simp only [Act.put, List.getElem_toArray, List.getElem_cons_succ, List.getElem_cons_zero, List.setIfInBounds_toArray, List.set_cons_zero, List.set_cons_succ]
  refine wpAnyH_take (i := 31) (v := ?_) rfl (by kernel_rfl) (by kernel_rfl) (by kernel_rfl) (fun _ _ _ h => h) (Or.inl ⟨by rfl, ?_⟩) (by assumption) ?_
  rotate_left
  · (intro w hSw; (try dsimp only at hSw); go_simp; (try with_reducible rfl))
  try simp only [Act.put, List.getElem_toArray, List.getElem_cons_succ, List.getElem_cons_zero, List.setIfInBounds_toArray, List.set_cons_zero, List.set_cons_succ]
  refine wpAnyH_take (i := 32) (v := ?_) rfl (by kernel_rfl) (by kernel_rfl) (by kernel_rfl) (fun _ _ _ h => h) (Or.inl ⟨by rfl, ?_⟩) (by assumption) ?_
  rotate_left
  · (intro w hSw; (try dsimp only at hSw); go_simp; (try with_reducible rfl))
  try simp only [Act.put, List.getElem_toArray, List.getElem_cons_succ, List.getElem_cons_zero, List.setIfInBounds_toArray, List.set_cons_zero, List.set_cons_succ]
  refine wpAnyH_take (i := 33) (v := ?_) rfl (by kernel_rfl) (by kernel_rfl) (by kernel_rfl) (fun _ _ _ h => h) (Or.inl ⟨by rfl, ?_⟩) (by assumption) ?_
  rotate_left
  · (intro w hSw; (try dsimp only at hSw); go_simp; (try with_reducible rfl))
  try simp only [Act.put, List.getElem_toArray, List.getElem_cons_succ, List.getElem_cons_zero, List.setIfInBounds_toArray, List.set_cons_zero, List.set_cons_succ]
  refine wpAnyH_done (by kernel_rfl) ?_ _
  all_goals
    go_wp2
    go_ret
    exact ⟨rfl, HB.out⟩
theorem wrHasK (w : World) (bs : List BV) (ba : Option Addr) (bc : Nat) (caps : Array Value) (a b c : Int) (hf : 1 ≤ a ∧ a ≤ 536870911) (hs : 1 ≤ c ∧ c ≤ 16) (hA : ∀ W, Below w.heap.size w W → Calls Try.prog 69 (#[.int .i64 b] ++ caps) W fun e w' => e = .returned (.bool true) ∧ Below W.heap.size W w') : Calls Try.prog 70 #[.slice ba bs.length bc, .agg #[.int .i64 16, .int .i64 a, .int .i64 b, .int .i64 c, .int .i64 0], .func (.func 69) #[] caps] w fun e w' => e = .returned (.bool true) ∧ Below w.heap.size w w' := by
  have HS : Hid (∀ W zb, Blk W zb 3 (ints [a, b, c]) → Calls Try.prog 84 #[.int .i64 16, .slice (some ⟨zb, 0, none⟩) 3 3] W fun e w' => e = .returned (.agg #[.int .i64 16, .int .i64 a, .int .i64 b, .int .i64 c, .int .i64 0]) ∧ Below W.heap.size W w') := hid fun W zb hB => stepL W 16 [a, b, c] (by simp) zb hB
  have heq : ∀ W, (Op.equalIn 10000 42 (.agg #[.int .i64 16, .int .i64 a, .int .i64 b, .int .i64 c, .int .i64 0]) (.agg #[.int .i64 16, .int .i64 a, .int .i64 b, .int .i64 c, .int .i64 0])).run Try.prog W = .ok true W := fun W => by
    have := eqIN ⟨16, a, b, c, 0⟩ ⟨16, a, b, c, 0⟩ W
    rw [(inB_iff _ _).2 rfl] at this
    exact this
  have hgd := gdIN
  have HF := hid (isFieldT · a hf)
  have HA := hid hA
  have HG := hid (isSingleT · c hs)
  have k0 : (c == 0) = false := by rw [beq_eq_false_iff_ne]; omega
  go_enter Try.func70, Try.ntmps70
  go_wp2_with fail
  have Bs : Blk (w.alloc (.cells #[.int .i64 16, .int .i64 a, .int .i64 b, .int .i64 c, .int .i64 0] 42)) w.heap.size 42 #[.int .i64 16, .int .i64 a, .int .i64 b, .int .i64 c, .int .i64 0] := Blk.new _ _ _
  have HB : Hid (Below w.heap.size w (w.alloc (.cells #[.int .i64 16, .int .i64 a, .int .i64 b, .int .i64 c, .int .i64 0] 42))) := hid (by exact blBy)
  generalize w.alloc (.cells #[.int .i64 16, .int .i64 a, .int .i64 b, .int .i64 c, .int .i64 0] 42) = V at *
  have e0 := Bs.cell 0 _ rfl
  have e1 := Bs.cell 1 _ rfl
  have e2 := Bs.cell 2 _ rfl
  have e3 := Bs.cell 3 _ rfl
  have e4 := Bs.cell 4 _ rfl
  simp only [List.getElem_toArray, List.getElem_cons_succ, List.getElem_cons_zero] at e0 e1 e2 e3 e4
  clear Bs
  go_region_held3 (fun W => W.cell? ⟨w.heap.size, 0, none⟩ = some (.int .i64 16) ∧ W.cell? ⟨w.heap.size, 1, none⟩ = some (.int .i64 a) ∧ W.cell? ⟨w.heap.size, 2, none⟩ = some (.int .i64 b) ∧ W.cell? ⟨w.heap.size, 3, none⟩ = some (.int .i64 c) ∧ W.cell? ⟨w.heap.size, 4, none⟩ = some (.int .i64 0)) (first | exact ⟨e0, e1, e2, e3, e4⟩ | exact ⟨cell_below e0 (bl_drew (below_alloc _)), cell_below e1 (bl_drew (below_alloc _)), cell_below e2 (bl_drew (below_alloc _)), cell_below e3 (bl_drew (below_alloc _)), cell_below e4 (bl_drew (below_alloc _))⟩) (first | (go_at_call 84; refine (HS.out _ _ ((Blk.new _ _ _).kept (below_drew1 _))).mono ?_; rintro e w1 ⟨rfl, hbx⟩; replace e0 := cell_below e0 (below_trans (by first | exact Below.refl _ _ | exact below_drew1 _ | exact below_drewN _ _ | exact bl_drew (below_alloc _)) hbx); replace e1 := cell_below e1 (below_trans (by first | exact Below.refl _ _ | exact below_drew1 _ | exact below_drewN _ _ | exact bl_drew (below_alloc _)) hbx); replace e2 := cell_below e2 (below_trans (by first | exact Below.refl _ _ | exact below_drew1 _ | exact below_drewN _ _ | exact bl_drew (below_alloc _)) hbx); replace e3 := cell_below e3 (below_trans (by first | exact Below.refl _ _ | exact below_drew1 _ | exact below_drewN _ _ | exact bl_drew (below_alloc _)) hbx); replace e4 := cell_below e4 (below_trans (by first | exact Below.refl _ _ | exact below_drew1 _ | exact below_drewN _ _ | exact bl_drew (below_alloc _)) hbx); replace HB := hid (below_trans HB.out (below_trans (by first | exact Below.refl _ _ | exact below_drew1 _ | exact below_drewN _ _ | exact bl_drew (below_alloc _)) hbx)); clear hbx) | (go_at_call 87; refine (HF.out _).mono ?_; rintro e w2 ⟨rfl, rfl⟩) | (go_at_call 69; refine (HA.out _ (below_trans HB.out (by first | exact Below.refl _ _ | exact below_drew1 _ | exact below_drewN _ _))).mono ?_; rintro e w2 ⟨rfl, hbx⟩; replace e0 := cell_below e0 (below_trans (by first | exact Below.refl _ _ | exact below_drew1 _ | exact below_drewN _ _ | exact bl_drew (below_alloc _)) hbx); replace e1 := cell_below e1 (below_trans (by first | exact Below.refl _ _ | exact below_drew1 _ | exact below_drewN _ _ | exact bl_drew (below_alloc _)) hbx); replace e2 := cell_below e2 (below_trans (by first | exact Below.refl _ _ | exact below_drew1 _ | exact below_drewN _ _ | exact bl_drew (below_alloc _)) hbx); replace e3 := cell_below e3 (below_trans (by first | exact Below.refl _ _ | exact below_drew1 _ | exact below_drewN _ _ | exact bl_drew (below_alloc _)) hbx); replace e4 := cell_below e4 (below_trans (by first | exact Below.refl _ _ | exact below_drew1 _ | exact below_drewN _ _ | exact bl_drew (below_alloc _)) hbx); replace HB := hid (below_trans HB.out (below_trans (by first | exact Below.refl _ _ | exact below_drew1 _ | exact below_drewN _ _ | exact bl_drew (below_alloc _)) hbx)); clear hbx) | (go_at_call 85; refine (HG.out _).mono ?_; rintro e w2 ⟨rfl, rfl⟩))
  all_goals
    go_wp2
    go_ret
    exact ⟨rfl, HB.out⟩
theorem wrPut (w : World) (bs : List BV) (ba : Option Addr) (bc : Nat) (caps : Array Value) (a n k : Int) (ht : TagOk a n k) : Calls Try.prog 70 #[.slice ba bs.length bc, .agg #[.int .i64 17, .int .i64 a, .int .i64 0, .int .i64 0, .int .i64 0], .func (.func 69) #[] caps] w fun e w' => e = .returned (.bool true) ∧ Below w.heap.size w w' := by
  have HS : Hid (∀ W zb, Blk W zb 3 (ints [a]) → Calls Try.prog 84 #[.int .i64 17, .slice (some ⟨zb, 0, none⟩) 1 1] W fun e w' => e = .returned (.agg #[.int .i64 17, .int .i64 a, .int .i64 0, .int .i64 0, .int .i64 0]) ∧ Below W.heap.size W w') := hid fun W zb hB => stepL W 17 [a] (by simp) zb hB
  have heq : ∀ W, (Op.equalIn 10000 42 (.agg #[.int .i64 17, .int .i64 a, .int .i64 0, .int .i64 0, .int .i64 0]) (.agg #[.int .i64 17, .int .i64 a, .int .i64 0, .int .i64 0, .int .i64 0])).run Try.prog W = .ok true W := fun W => by
    have := eqIN ⟨17, a, 0, 0, 0⟩ ⟨17, a, 0, 0, 0⟩ W
    rw [(inB_iff _ _).2 rfl] at this
    exact this
  have hgd := gdIN
  have HT := hid (isTagT · a n k ht)
  go_enter Try.func70, Try.ntmps70
  go_wp2_with fail
  have Bs : Blk (w.alloc (.cells #[.int .i64 17, .int .i64 a, .int .i64 0, .int .i64 0, .int .i64 0] 42)) w.heap.size 42 #[.int .i64 17, .int .i64 a, .int .i64 0, .int .i64 0, .int .i64 0] := Blk.new _ _ _
  have HB : Hid (Below w.heap.size w (w.alloc (.cells #[.int .i64 17, .int .i64 a, .int .i64 0, .int .i64 0, .int .i64 0] 42))) := hid (by exact blBy)
  generalize w.alloc (.cells #[.int .i64 17, .int .i64 a, .int .i64 0, .int .i64 0, .int .i64 0] 42) = V at *
  have e0 := Bs.cell 0 _ rfl
  have e1 := Bs.cell 1 _ rfl
  have e2 := Bs.cell 2 _ rfl
  have e3 := Bs.cell 3 _ rfl
  have e4 := Bs.cell 4 _ rfl
  simp only [List.getElem_toArray, List.getElem_cons_succ, List.getElem_cons_zero] at e0 e1 e2 e3 e4
  clear Bs
  go_region_held3 (fun W => W.cell? ⟨w.heap.size, 0, none⟩ = some (.int .i64 17) ∧ W.cell? ⟨w.heap.size, 1, none⟩ = some (.int .i64 a) ∧ W.cell? ⟨w.heap.size, 2, none⟩ = some (.int .i64 0) ∧ W.cell? ⟨w.heap.size, 3, none⟩ = some (.int .i64 0) ∧ W.cell? ⟨w.heap.size, 4, none⟩ = some (.int .i64 0)) (first | exact ⟨e0, e1, e2, e3, e4⟩ | exact ⟨cell_below e0 (bl_drew (below_alloc _)), cell_below e1 (bl_drew (below_alloc _)), cell_below e2 (bl_drew (below_alloc _)), cell_below e3 (bl_drew (below_alloc _)), cell_below e4 (bl_drew (below_alloc _))⟩) (first | (go_at_call 84; refine (HS.out _ _ ((Blk.new _ _ _).kept (below_drew1 _))).mono ?_; rintro e w1 ⟨rfl, hbx⟩; replace e0 := cell_below e0 (below_trans (by first | exact Below.refl _ _ | exact below_drew1 _ | exact below_drewN _ _ | exact bl_drew (below_alloc _)) hbx); replace e1 := cell_below e1 (below_trans (by first | exact Below.refl _ _ | exact below_drew1 _ | exact below_drewN _ _ | exact bl_drew (below_alloc _)) hbx); replace e2 := cell_below e2 (below_trans (by first | exact Below.refl _ _ | exact below_drew1 _ | exact below_drewN _ _ | exact bl_drew (below_alloc _)) hbx); replace e3 := cell_below e3 (below_trans (by first | exact Below.refl _ _ | exact below_drew1 _ | exact below_drewN _ _ | exact bl_drew (below_alloc _)) hbx); replace e4 := cell_below e4 (below_trans (by first | exact Below.refl _ _ | exact below_drew1 _ | exact below_drewN _ _ | exact bl_drew (below_alloc _)) hbx); replace HB := hid (below_trans HB.out (below_trans (by first | exact Below.refl _ _ | exact below_drew1 _ | exact below_drewN _ _ | exact bl_drew (below_alloc _)) hbx)); clear hbx) | (go_at_call 72; refine (HT.out _).mono ?_; rintro e w2 ⟨rfl, rfl⟩))
  all_goals
    go_wp2
    go_ret
    exact ⟨rfl, HB.out⟩
theorem wrVal (w : World) (bs : List BV) (ba : Option Addr) (bc : Nat) (caps : Array Value) (a : Int) (hs : 1 ≤ a ∧ a ≤ 16) : Calls Try.prog 70 #[.slice ba bs.length bc, .agg #[.int .i64 18, .int .i64 a, .int .i64 0, .int .i64 0, .int .i64 0], .func (.func 69) #[] caps] w fun e w' => e = .returned (.bool true) ∧ Below w.heap.size w w' := by
  have HS : Hid (∀ W zb, Blk W zb 3 (ints [a]) → Calls Try.prog 84 #[.int .i64 18, .slice (some ⟨zb, 0, none⟩) 1 1] W fun e w' => e = .returned (.agg #[.int .i64 18, .int .i64 a, .int .i64 0, .int .i64 0, .int .i64 0]) ∧ Below W.heap.size W w') := hid fun W zb hB => stepL W 18 [a] (by simp) zb hB
  have heq : ∀ W, (Op.equalIn 10000 42 (.agg #[.int .i64 18, .int .i64 a, .int .i64 0, .int .i64 0, .int .i64 0]) (.agg #[.int .i64 18, .int .i64 a, .int .i64 0, .int .i64 0, .int .i64 0])).run Try.prog W = .ok true W := fun W => by
    have := eqIN ⟨18, a, 0, 0, 0⟩ ⟨18, a, 0, 0, 0⟩ W
    rw [(inB_iff _ _).2 rfl] at this
    exact this
  have hgd := gdIN
  have HG := hid (isSingleT · a hs)
  go_enter Try.func70, Try.ntmps70
  go_wp2_with fail
  have Bs : Blk (w.alloc (.cells #[.int .i64 18, .int .i64 a, .int .i64 0, .int .i64 0, .int .i64 0] 42)) w.heap.size 42 #[.int .i64 18, .int .i64 a, .int .i64 0, .int .i64 0, .int .i64 0] := Blk.new _ _ _
  have HB : Hid (Below w.heap.size w (w.alloc (.cells #[.int .i64 18, .int .i64 a, .int .i64 0, .int .i64 0, .int .i64 0] 42))) := hid (by exact blBy)
  generalize w.alloc (.cells #[.int .i64 18, .int .i64 a, .int .i64 0, .int .i64 0, .int .i64 0] 42) = V at *
  have e0 := Bs.cell 0 _ rfl
  have e1 := Bs.cell 1 _ rfl
  have e2 := Bs.cell 2 _ rfl
  have e3 := Bs.cell 3 _ rfl
  have e4 := Bs.cell 4 _ rfl
  simp only [List.getElem_toArray, List.getElem_cons_succ, List.getElem_cons_zero] at e0 e1 e2 e3 e4
  clear Bs
  go_region_held3 (fun W => W.cell? ⟨w.heap.size, 0, none⟩ = some (.int .i64 18) ∧ W.cell? ⟨w.heap.size, 1, none⟩ = some (.int .i64 a) ∧ W.cell? ⟨w.heap.size, 2, none⟩ = some (.int .i64 0) ∧ W.cell? ⟨w.heap.size, 3, none⟩ = some (.int .i64 0) ∧ W.cell? ⟨w.heap.size, 4, none⟩ = some (.int .i64 0)) (first | exact ⟨e0, e1, e2, e3, e4⟩ | exact ⟨cell_below e0 (bl_drew (below_alloc _)), cell_below e1 (bl_drew (below_alloc _)), cell_below e2 (bl_drew (below_alloc _)), cell_below e3 (bl_drew (below_alloc _)), cell_below e4 (bl_drew (below_alloc _))⟩) (first | (go_at_call 84; refine (HS.out _ _ ((Blk.new _ _ _).kept (below_drew1 _))).mono ?_; rintro e w1 ⟨rfl, hbx⟩; replace e0 := cell_below e0 (below_trans (by first | exact Below.refl _ _ | exact below_drew1 _ | exact below_drewN _ _ | exact bl_drew (below_alloc _)) hbx); replace e1 := cell_below e1 (below_trans (by first | exact Below.refl _ _ | exact below_drew1 _ | exact below_drewN _ _ | exact bl_drew (below_alloc _)) hbx); replace e2 := cell_below e2 (below_trans (by first | exact Below.refl _ _ | exact below_drew1 _ | exact below_drewN _ _ | exact bl_drew (below_alloc _)) hbx); replace e3 := cell_below e3 (below_trans (by first | exact Below.refl _ _ | exact below_drew1 _ | exact below_drewN _ _ | exact bl_drew (below_alloc _)) hbx); replace e4 := cell_below e4 (below_trans (by first | exact Below.refl _ _ | exact below_drew1 _ | exact below_drewN _ _ | exact bl_drew (below_alloc _)) hbx); replace HB := hid (below_trans HB.out (below_trans (by first | exact Below.refl _ _ | exact below_drew1 _ | exact below_drewN _ _ | exact bl_drew (below_alloc _)) hbx)); clear hbx) | (go_at_call 85; refine (HG.out _).mono ?_; rintro e w2 ⟨rfl, rfl⟩))
  all_goals
    go_wp2
    go_ret
    exact ⟨rfl, HB.out⟩
theorem wrSub (w : World) (bs : List BV) (ba : Option Addr) (bc : Nat) (caps : Array Value) (k : Nat) (hp : PgR w (.slice ba bs.length bc) bs) (hl : k < bs.length) (h1 : 0 < bs[k].k.dec.length) (hz : bs[k].k.dec.length ≤ 100000 ∧ bs[k].k.enc.length ≤ 100000) : Calls Try.prog 70 #[.slice ba bs.length bc, .agg #[.int .i64 19, .int .i64 (k : Int), .int .i64 0, .int .i64 0, .int .i64 0], .func (.func 69) #[] caps] w fun e w' => e = .returned (.bool true) ∧ Below w.heap.size w w' := by
  have HS : Hid (∀ W zb, Blk W zb 3 (ints [(k : Int)]) → Calls Try.prog 84 #[.int .i64 19, .slice (some ⟨zb, 0, none⟩) 1 1] W fun e w' => e = .returned (.agg #[.int .i64 19, .int .i64 (k : Int), .int .i64 0, .int .i64 0, .int .i64 0]) ∧ Below W.heap.size W w') := hid fun W zb hB => stepL W 19 [(k : Int)] (by simp) zb hB
  have heq : ∀ W, (Op.equalIn 10000 42 (.agg #[.int .i64 19, .int .i64 (k : Int), .int .i64 0, .int .i64 0, .int .i64 0]) (.agg #[.int .i64 19, .int .i64 (k : Int), .int .i64 0, .int .i64 0, .int .i64 0])).run Try.prog W = .ok true W := fun W => by
    have := eqIN ⟨19, (k : Int), 0, 0, 0⟩ ⟨19, (k : Int), 0, 0, 0⟩ W
    rw [(inB_iff _ _).2 rfl] at this
    exact this
  have hgd := gdIN
  have HM := hid (fun W hW => isMessageT W bs ba bc (hp.kept hW) k hl h1 hz)
  go_enter Try.func70, Try.ntmps70
  go_wp2_with fail
  have Bs : Blk (w.alloc (.cells #[.int .i64 19, .int .i64 (k : Int), .int .i64 0, .int .i64 0, .int .i64 0] 42)) w.heap.size 42 #[.int .i64 19, .int .i64 (k : Int), .int .i64 0, .int .i64 0, .int .i64 0] := Blk.new _ _ _
  have HB : Hid (Below w.heap.size w (w.alloc (.cells #[.int .i64 19, .int .i64 (k : Int), .int .i64 0, .int .i64 0, .int .i64 0] 42))) := hid (by exact blBy)
  generalize w.alloc (.cells #[.int .i64 19, .int .i64 (k : Int), .int .i64 0, .int .i64 0, .int .i64 0] 42) = V at *
  have e0 := Bs.cell 0 _ rfl
  have e1 := Bs.cell 1 _ rfl
  have e2 := Bs.cell 2 _ rfl
  have e3 := Bs.cell 3 _ rfl
  have e4 := Bs.cell 4 _ rfl
  simp only [List.getElem_toArray, List.getElem_cons_succ, List.getElem_cons_zero] at e0 e1 e2 e3 e4
  clear Bs
  go_region_held3 (fun W => W.cell? ⟨w.heap.size, 0, none⟩ = some (.int .i64 19) ∧ W.cell? ⟨w.heap.size, 1, none⟩ = some (.int .i64 (k : Int)) ∧ W.cell? ⟨w.heap.size, 2, none⟩ = some (.int .i64 0) ∧ W.cell? ⟨w.heap.size, 3, none⟩ = some (.int .i64 0) ∧ W.cell? ⟨w.heap.size, 4, none⟩ = some (.int .i64 0)) (first | exact ⟨e0, e1, e2, e3, e4⟩ | exact ⟨cell_below e0 (bl_drew (below_alloc _)), cell_below e1 (bl_drew (below_alloc _)), cell_below e2 (bl_drew (below_alloc _)), cell_below e3 (bl_drew (below_alloc _)), cell_below e4 (bl_drew (below_alloc _))⟩) (first | (go_at_call 84; refine (HS.out _ _ ((Blk.new _ _ _).kept (below_drew1 _))).mono ?_; rintro e w1 ⟨rfl, hbx⟩; replace e0 := cell_below e0 (below_trans (by first | exact Below.refl _ _ | exact below_drew1 _ | exact below_drewN _ _ | exact bl_drew (below_alloc _)) hbx); replace e1 := cell_below e1 (below_trans (by first | exact Below.refl _ _ | exact below_drew1 _ | exact below_drewN _ _ | exact bl_drew (below_alloc _)) hbx); replace e2 := cell_below e2 (below_trans (by first | exact Below.refl _ _ | exact below_drew1 _ | exact below_drewN _ _ | exact bl_drew (below_alloc _)) hbx); replace e3 := cell_below e3 (below_trans (by first | exact Below.refl _ _ | exact below_drew1 _ | exact below_drewN _ _ | exact bl_drew (below_alloc _)) hbx); replace e4 := cell_below e4 (below_trans (by first | exact Below.refl _ _ | exact below_drew1 _ | exact below_drewN _ _ | exact bl_drew (below_alloc _)) hbx); replace HB := hid (below_trans HB.out (below_trans (by first | exact Below.refl _ _ | exact below_drew1 _ | exact below_drewN _ _ | exact bl_drew (below_alloc _)) hbx)); clear hbx) | (go_at_call 88; refine (HM.out _ (below_trans HB.out (by first | exact Below.refl _ _ | exact below_drew1 _ | exact below_drewN _ _))).mono ?_; rintro e w2 ⟨rfl, hbx⟩; replace e0 := cell_below e0 (below_trans (by first | exact Below.refl _ _ | exact below_drew1 _ | exact below_drewN _ _ | exact bl_drew (below_alloc _)) hbx); replace e1 := cell_below e1 (below_trans (by first | exact Below.refl _ _ | exact below_drew1 _ | exact below_drewN _ _ | exact bl_drew (below_alloc _)) hbx); replace e2 := cell_below e2 (below_trans (by first | exact Below.refl _ _ | exact below_drew1 _ | exact below_drewN _ _ | exact bl_drew (below_alloc _)) hbx); replace e3 := cell_below e3 (below_trans (by first | exact Below.refl _ _ | exact below_drew1 _ | exact below_drewN _ _ | exact bl_drew (below_alloc _)) hbx); replace e4 := cell_below e4 (below_trans (by first | exact Below.refl _ _ | exact below_drew1 _ | exact below_drewN _ _ | exact bl_drew (below_alloc _)) hbx); replace HB := hid (below_trans HB.out (below_trans (by first | exact Below.refl _ _ | exact below_drew1 _ | exact below_drewN _ _ | exact bl_drew (below_alloc _)) hbx)); clear hbx))
  all_goals
    go_wp2
    go_ret
    exact ⟨rfl, HB.out⟩
theorem wrEach (w : World) (bs : List BV) (ba : Option Addr) (bc : Nat) (caps : Array Value) (a b c n k : Int) (hp : PgR w (.slice ba bs.length bc) bs) (ht : TagOk a n k) (hok : OfKind bs b c) : Calls Try.prog 70 #[.slice ba bs.length bc, .agg #[.int .i64 20, .int .i64 a, .int .i64 b, .int .i64 c, .int .i64 0], .func (.func 69) #[] caps] w fun e w' => e = .returned (.bool true) ∧ Below w.heap.size w w' := by
  have HS : Hid (∀ W zb, Blk W zb 3 (ints [a, b, c]) → Calls Try.prog 84 #[.int .i64 20, .slice (some ⟨zb, 0, none⟩) 3 3] W fun e w' => e = .returned (.agg #[.int .i64 20, .int .i64 a, .int .i64 b, .int .i64 c, .int .i64 0]) ∧ Below W.heap.size W w') := hid fun W zb hB => stepL W 20 [a, b, c] (by simp) zb hB
  have heq : ∀ W, (Op.equalIn 10000 42 (.agg #[.int .i64 20, .int .i64 a, .int .i64 b, .int .i64 c, .int .i64 0]) (.agg #[.int .i64 20, .int .i64 a, .int .i64 b, .int .i64 c, .int .i64 0])).run Try.prog W = .ok true W := fun W => by
    have := eqIN ⟨20, a, b, c, 0⟩ ⟨20, a, b, c, 0⟩ W
    rw [(inB_iff _ _).2 rfl] at this
    exact this
  have hgd := gdIN
  have HT := hid (isTagT · a n k ht)
  have HO := hid (fun W hW => isOfKindT W bs ba bc (hp.kept hW) b c hok)
  clear hok
  go_enter Try.func70, Try.ntmps70
  go_wp2_with fail
  have Bs : Blk (w.alloc (.cells #[.int .i64 20, .int .i64 a, .int .i64 b, .int .i64 c, .int .i64 0] 42)) w.heap.size 42 #[.int .i64 20, .int .i64 a, .int .i64 b, .int .i64 c, .int .i64 0] := Blk.new _ _ _
  have HB : Hid (Below w.heap.size w (w.alloc (.cells #[.int .i64 20, .int .i64 a, .int .i64 b, .int .i64 c, .int .i64 0] 42))) := hid (by exact blBy)
  generalize w.alloc (.cells #[.int .i64 20, .int .i64 a, .int .i64 b, .int .i64 c, .int .i64 0] 42) = V at *
  have e0 := Bs.cell 0 _ rfl
  have e1 := Bs.cell 1 _ rfl
  have e2 := Bs.cell 2 _ rfl
  have e3 := Bs.cell 3 _ rfl
  have e4 := Bs.cell 4 _ rfl
  simp only [List.getElem_toArray, List.getElem_cons_succ, List.getElem_cons_zero] at e0 e1 e2 e3 e4
  clear Bs
  go_region_held3 (fun W => W.cell? ⟨w.heap.size, 0, none⟩ = some (.int .i64 20) ∧ W.cell? ⟨w.heap.size, 1, none⟩ = some (.int .i64 a) ∧ W.cell? ⟨w.heap.size, 2, none⟩ = some (.int .i64 b) ∧ W.cell? ⟨w.heap.size, 3, none⟩ = some (.int .i64 c) ∧ W.cell? ⟨w.heap.size, 4, none⟩ = some (.int .i64 0)) (first | exact ⟨e0, e1, e2, e3, e4⟩ | exact ⟨cell_below e0 (bl_drew (below_alloc _)), cell_below e1 (bl_drew (below_alloc _)), cell_below e2 (bl_drew (below_alloc _)), cell_below e3 (bl_drew (below_alloc _)), cell_below e4 (bl_drew (below_alloc _))⟩) (first | (go_at_call 84; refine (HS.out _ _ ((Blk.new _ _ _).kept (below_drew1 _))).mono ?_; rintro e w1 ⟨rfl, hbx⟩; replace e0 := cell_below e0 (below_trans (by first | exact Below.refl _ _ | exact below_drew1 _ | exact below_drewN _ _ | exact bl_drew (below_alloc _)) hbx); replace e1 := cell_below e1 (below_trans (by first | exact Below.refl _ _ | exact below_drew1 _ | exact below_drewN _ _ | exact bl_drew (below_alloc _)) hbx); replace e2 := cell_below e2 (below_trans (by first | exact Below.refl _ _ | exact below_drew1 _ | exact below_drewN _ _ | exact bl_drew (below_alloc _)) hbx); replace e3 := cell_below e3 (below_trans (by first | exact Below.refl _ _ | exact below_drew1 _ | exact below_drewN _ _ | exact bl_drew (below_alloc _)) hbx); replace e4 := cell_below e4 (below_trans (by first | exact Below.refl _ _ | exact below_drew1 _ | exact below_drewN _ _ | exact bl_drew (below_alloc _)) hbx); replace HB := hid (below_trans HB.out (below_trans (by first | exact Below.refl _ _ | exact below_drew1 _ | exact below_drewN _ _ | exact bl_drew (below_alloc _)) hbx)); clear hbx) | (go_at_call 72; refine (HT.out _).mono ?_; rintro e w2 ⟨rfl, rfl⟩) | (go_at_call 92; refine (HO.out _ (below_trans HB.out (by first | exact Below.refl _ _ | exact below_drew1 _ | exact below_drewN _ _))).mono ?_; rintro e w2 ⟨rfl, hbx⟩; replace e0 := cell_below e0 (below_trans (by first | exact Below.refl _ _ | exact below_drew1 _ | exact below_drewN _ _ | exact bl_drew (below_alloc _)) hbx); replace e1 := cell_below e1 (below_trans (by first | exact Below.refl _ _ | exact below_drew1 _ | exact below_drewN _ _ | exact bl_drew (below_alloc _)) hbx); replace e2 := cell_below e2 (below_trans (by first | exact Below.refl _ _ | exact below_drew1 _ | exact below_drewN _ _ | exact bl_drew (below_alloc _)) hbx); replace e3 := cell_below e3 (below_trans (by first | exact Below.refl _ _ | exact below_drew1 _ | exact below_drewN _ _ | exact bl_drew (below_alloc _)) hbx); replace e4 := cell_below e4 (below_trans (by first | exact Below.refl _ _ | exact below_drew1 _ | exact below_drewN _ _ | exact bl_drew (below_alloc _)) hbx); replace HB := hid (below_trans HB.out (below_trans (by first | exact Below.refl _ _ | exact below_drew1 _ | exact below_drewN _ _ | exact bl_drew (below_alloc _)) hbx)); clear hbx))
  all_goals
    go_wp2
    go_ret
    exact ⟨rfl, HB.out⟩
theorem wrRun (w : World) (bs : List BV) (ba : Option Addr) (bc : Nat) (caps : Array Value) (a b n k : Int) (ht : TagOk a n k) (hnu : knum b = true) : Calls Try.prog 70 #[.slice ba bs.length bc, .agg #[.int .i64 21, .int .i64 a, .int .i64 b, .int .i64 0, .int .i64 0], .func (.func 69) #[] caps] w fun e w' => e = .returned (.bool true) ∧ Below w.heap.size w w' := by
  have HS : Hid (∀ W zb, Blk W zb 3 (ints [a, b]) → Calls Try.prog 84 #[.int .i64 21, .slice (some ⟨zb, 0, none⟩) 2 2] W fun e w' => e = .returned (.agg #[.int .i64 21, .int .i64 a, .int .i64 b, .int .i64 0, .int .i64 0]) ∧ Below W.heap.size W w') := hid fun W zb hB => stepL W 21 [a, b] (by simp) zb hB
  have heq : ∀ W, (Op.equalIn 10000 42 (.agg #[.int .i64 21, .int .i64 a, .int .i64 b, .int .i64 0, .int .i64 0]) (.agg #[.int .i64 21, .int .i64 a, .int .i64 b, .int .i64 0, .int .i64 0])).run Try.prog W = .ok true W := fun W => by
    have := eqIN ⟨21, a, b, 0, 0⟩ ⟨21, a, b, 0, 0⟩ W
    rw [(inB_iff _ _).2 rfl] at this
    exact this
  have hgd := gdIN
  have HT := hid (isTagT · a n k ht)
  have HN : Hid (∀ W, Calls Try.prog 89 #[.int .i64 b] W fun e w' => e = .returned (.bool true) ∧ W = w') := hid fun W => by have := numericW b W; rw [hnu] at this; exact this
  go_enter Try.func70, Try.ntmps70
  go_wp2_with fail
  have Bs : Blk (w.alloc (.cells #[.int .i64 21, .int .i64 a, .int .i64 b, .int .i64 0, .int .i64 0] 42)) w.heap.size 42 #[.int .i64 21, .int .i64 a, .int .i64 b, .int .i64 0, .int .i64 0] := Blk.new _ _ _
  have HB : Hid (Below w.heap.size w (w.alloc (.cells #[.int .i64 21, .int .i64 a, .int .i64 b, .int .i64 0, .int .i64 0] 42))) := hid (by exact blBy)
  generalize w.alloc (.cells #[.int .i64 21, .int .i64 a, .int .i64 b, .int .i64 0, .int .i64 0] 42) = V at *
  have e0 := Bs.cell 0 _ rfl
  have e1 := Bs.cell 1 _ rfl
  have e2 := Bs.cell 2 _ rfl
  have e3 := Bs.cell 3 _ rfl
  have e4 := Bs.cell 4 _ rfl
  simp only [List.getElem_toArray, List.getElem_cons_succ, List.getElem_cons_zero] at e0 e1 e2 e3 e4
  clear Bs
  go_region_held3 (fun W => W.cell? ⟨w.heap.size, 0, none⟩ = some (.int .i64 21) ∧ W.cell? ⟨w.heap.size, 1, none⟩ = some (.int .i64 a) ∧ W.cell? ⟨w.heap.size, 2, none⟩ = some (.int .i64 b) ∧ W.cell? ⟨w.heap.size, 3, none⟩ = some (.int .i64 0) ∧ W.cell? ⟨w.heap.size, 4, none⟩ = some (.int .i64 0)) (first | exact ⟨e0, e1, e2, e3, e4⟩ | exact ⟨cell_below e0 (bl_drew (below_alloc _)), cell_below e1 (bl_drew (below_alloc _)), cell_below e2 (bl_drew (below_alloc _)), cell_below e3 (bl_drew (below_alloc _)), cell_below e4 (bl_drew (below_alloc _))⟩) (first | (go_at_call 84; refine (HS.out _ _ ((Blk.new _ _ _).kept (below_drew1 _))).mono ?_; rintro e w1 ⟨rfl, hbx⟩; replace e0 := cell_below e0 (below_trans (by first | exact Below.refl _ _ | exact below_drew1 _ | exact below_drewN _ _ | exact bl_drew (below_alloc _)) hbx); replace e1 := cell_below e1 (below_trans (by first | exact Below.refl _ _ | exact below_drew1 _ | exact below_drewN _ _ | exact bl_drew (below_alloc _)) hbx); replace e2 := cell_below e2 (below_trans (by first | exact Below.refl _ _ | exact below_drew1 _ | exact below_drewN _ _ | exact bl_drew (below_alloc _)) hbx); replace e3 := cell_below e3 (below_trans (by first | exact Below.refl _ _ | exact below_drew1 _ | exact below_drewN _ _ | exact bl_drew (below_alloc _)) hbx); replace e4 := cell_below e4 (below_trans (by first | exact Below.refl _ _ | exact below_drew1 _ | exact below_drewN _ _ | exact bl_drew (below_alloc _)) hbx); replace HB := hid (below_trans HB.out (below_trans (by first | exact Below.refl _ _ | exact below_drew1 _ | exact below_drewN _ _ | exact bl_drew (below_alloc _)) hbx)); clear hbx) | (go_at_call 72; refine (HT.out _).mono ?_; rintro e w2 ⟨rfl, rfl⟩) | (go_at_call 89; refine (HN.out _).mono ?_; rintro e w2 ⟨rfl, rfl⟩))
  all_goals
    go_wp2
    go_ret
    exact ⟨rfl, HB.out⟩
theorem wrPairs (w : World) (bs : List BV) (ba : Option Addr) (bc : Nat) (caps : Array Value) (a b c d n k : Int) (hp : PgR w (.slice ba bs.length bc) bs) (ht : TagOk a n k) (hky : kkey b = true) (hok : OfKind bs c d) : Calls Try.prog 70 #[.slice ba bs.length bc, .agg #[.int .i64 22, .int .i64 a, .int .i64 b, .int .i64 c, .int .i64 d], .func (.func 69) #[] caps] w fun e w' => e = .returned (.bool true) ∧ Below w.heap.size w w' := by
  have HT := hid (isTagT · a n k ht)
  have HK : Hid (∀ W, Calls Try.prog 91 #[.int .i64 b] W fun e w' => e = .returned (.bool true) ∧ W = w') := hid fun W => by have := isKeyW b W; rw [hky] at this; exact this
  have HO := hid (fun W hW => isOfKindT W bs ba bc (hp.kept hW) c d hok)
  clear hok
  go_enter Try.func70, Try.ntmps70
  go_wp2_with fail
  have Bs : Blk (w.alloc (.cells #[.int .i64 22, .int .i64 a, .int .i64 b, .int .i64 c, .int .i64 d] 42)) w.heap.size 42 #[.int .i64 22, .int .i64 a, .int .i64 b, .int .i64 c, .int .i64 d] := Blk.new _ _ _
  have HB : Hid (Below w.heap.size w (w.alloc (.cells #[.int .i64 22, .int .i64 a, .int .i64 b, .int .i64 c, .int .i64 d] 42))) := hid (by exact blBy)
  generalize w.alloc (.cells #[.int .i64 22, .int .i64 a, .int .i64 b, .int .i64 c, .int .i64 d] 42) = V at *
  have e0 := Bs.cell 0 _ rfl
  have e1 := Bs.cell 1 _ rfl
  have e2 := Bs.cell 2 _ rfl
  have e3 := Bs.cell 3 _ rfl
  have e4 := Bs.cell 4 _ rfl
  simp only [List.getElem_toArray, List.getElem_cons_succ, List.getElem_cons_zero] at e0 e1 e2 e3 e4
  clear Bs
  go_wp2_with (first | (go_at_call 72; refine (HT.out _).mono ?_; rintro e w2 ⟨rfl, rfl⟩) | (go_at_call 91; refine (HK.out _).mono ?_; rintro e w2 ⟨rfl, rfl⟩) | (go_at_call 92; refine (HO.out _ (below_trans HB.out (by first | exact Below.refl _ _ | exact below_drew1 _ | exact below_drewN _ _))).mono ?_; rintro e w2 ⟨rfl, hbx⟩; replace e0 := cell_below e0 (below_trans (by first | exact Below.refl _ _ | exact below_drew1 _ | exact below_drewN _ _ | exact bl_drew (below_alloc _)) hbx); replace e1 := cell_below e1 (below_trans (by first | exact Below.refl _ _ | exact below_drew1 _ | exact below_drewN _ _ | exact bl_drew (below_alloc _)) hbx); replace e2 := cell_below e2 (below_trans (by first | exact Below.refl _ _ | exact below_drew1 _ | exact below_drewN _ _ | exact bl_drew (below_alloc _)) hbx); replace e3 := cell_below e3 (below_trans (by first | exact Below.refl _ _ | exact below_drew1 _ | exact below_drewN _ _ | exact bl_drew (below_alloc _)) hbx); replace e4 := cell_below e4 (below_trans (by first | exact Below.refl _ _ | exact below_drew1 _ | exact below_drewN _ _ | exact bl_drew (below_alloc _)) hbx); replace HB := hid (below_trans HB.out (below_trans (by first | exact Below.refl _ _ | exact below_drew1 _ | exact below_drewN _ _ | exact bl_drew (below_alloc _)) hbx)); clear hbx))
  all_goals
    go_wp2
    go_ret
    exact ⟨rfl, HB.out⟩
theorem wrRest (w : World) (bs : List BV) (ba : Option Addr) (bc : Nat) (caps : Array Value)  : Calls Try.prog 70 #[.slice ba bs.length bc, .agg #[.int .i64 23, .int .i64 0, .int .i64 0, .int .i64 0, .int .i64 0], .func (.func 69) #[] caps] w fun e w' => e = .returned (.bool true) ∧ Below w.heap.size w w' := by
  have HS : Hid (∀ W, Calls Try.prog 84 #[.int .i64 23, .slice none 0 0] W fun e w' => e = .returned (.agg #[.int .i64 23, .int .i64 0, .int .i64 0, .int .i64 0, .int .i64 0]) ∧ Below W.heap.size W w') := hid fun W => stepT W 23 [] (by simp) none 0 (rowS_nil _ _ _)
  have heq : ∀ W, (Op.equalIn 10000 42 (.agg #[.int .i64 23, .int .i64 0, .int .i64 0, .int .i64 0, .int .i64 0]) (.agg #[.int .i64 23, .int .i64 0, .int .i64 0, .int .i64 0, .int .i64 0])).run Try.prog W = .ok true W := fun W => by
    have := eqIN ⟨23, 0, 0, 0, 0⟩ ⟨23, 0, 0, 0, 0⟩ W
    rw [(inB_iff _ _).2 rfl] at this
    exact this
  have hgd := gdIN
  go_enter Try.func70, Try.ntmps70
  go_wp2_with fail
  have Bs : Blk (w.alloc (.cells #[.int .i64 23, .int .i64 0, .int .i64 0, .int .i64 0, .int .i64 0] 42)) w.heap.size 42 #[.int .i64 23, .int .i64 0, .int .i64 0, .int .i64 0, .int .i64 0] := Blk.new _ _ _
  have HB : Hid (Below w.heap.size w (w.alloc (.cells #[.int .i64 23, .int .i64 0, .int .i64 0, .int .i64 0, .int .i64 0] 42))) := hid (by exact blBy)
  generalize w.alloc (.cells #[.int .i64 23, .int .i64 0, .int .i64 0, .int .i64 0, .int .i64 0] 42) = V at *
  have e0 := Bs.cell 0 _ rfl
  have e1 := Bs.cell 1 _ rfl
  have e2 := Bs.cell 2 _ rfl
  have e3 := Bs.cell 3 _ rfl
  have e4 := Bs.cell 4 _ rfl
  simp only [List.getElem_toArray, List.getElem_cons_succ, List.getElem_cons_zero] at e0 e1 e2 e3 e4
  clear Bs
  go_region_held3 (fun W => W.cell? ⟨w.heap.size, 0, none⟩ = some (.int .i64 23) ∧ W.cell? ⟨w.heap.size, 1, none⟩ = some (.int .i64 0) ∧ W.cell? ⟨w.heap.size, 2, none⟩ = some (.int .i64 0) ∧ W.cell? ⟨w.heap.size, 3, none⟩ = some (.int .i64 0) ∧ W.cell? ⟨w.heap.size, 4, none⟩ = some (.int .i64 0)) (first | exact ⟨e0, e1, e2, e3, e4⟩ | exact ⟨cell_below e0 (bl_drew (below_alloc _)), cell_below e1 (bl_drew (below_alloc _)), cell_below e2 (bl_drew (below_alloc _)), cell_below e3 (bl_drew (below_alloc _)), cell_below e4 (bl_drew (below_alloc _))⟩) (first | (go_at_call 84; refine (HS.out _).mono ?_; rintro e w1 ⟨rfl, hbx⟩; replace e0 := cell_below e0 (below_trans (by first | exact Below.refl _ _ | exact below_drew1 _ | exact below_drewN _ _ | exact bl_drew (below_alloc _)) hbx); replace e1 := cell_below e1 (below_trans (by first | exact Below.refl _ _ | exact below_drew1 _ | exact below_drewN _ _ | exact bl_drew (below_alloc _)) hbx); replace e2 := cell_below e2 (below_trans (by first | exact Below.refl _ _ | exact below_drew1 _ | exact below_drewN _ _ | exact bl_drew (below_alloc _)) hbx); replace e3 := cell_below e3 (below_trans (by first | exact Below.refl _ _ | exact below_drew1 _ | exact below_drewN _ _ | exact bl_drew (below_alloc _)) hbx); replace e4 := cell_below e4 (below_trans (by first | exact Below.refl _ _ | exact below_drew1 _ | exact below_drewN _ _ | exact bl_drew (below_alloc _)) hbx); replace HB := hid (below_trans HB.out (below_trans (by first | exact Below.refl _ _ | exact below_drew1 _ | exact below_drewN _ _ | exact bl_drew (below_alloc _)) hbx)); clear hbx))
  all_goals
    go_wp2
    go_ret
    exact ⟨rfl, HB.out⟩
theorem wrEnd (w : World) (bs : List BV) (ba : Option Addr) (bc : Nat) (caps : Array Value)  : Calls Try.prog 70 #[.slice ba bs.length bc, .agg #[.int .i64 24, .int .i64 0, .int .i64 0, .int .i64 0, .int .i64 0], .func (.func 69) #[] caps] w fun e w' => e = .returned (.bool true) ∧ Below w.heap.size w w' := by
  have HS : Hid (∀ W, Calls Try.prog 84 #[.int .i64 24, .slice none 0 0] W fun e w' => e = .returned (.agg #[.int .i64 24, .int .i64 0, .int .i64 0, .int .i64 0, .int .i64 0]) ∧ Below W.heap.size W w') := hid fun W => stepT W 24 [] (by simp) none 0 (rowS_nil _ _ _)
  have heq : ∀ W, (Op.equalIn 10000 42 (.agg #[.int .i64 24, .int .i64 0, .int .i64 0, .int .i64 0, .int .i64 0]) (.agg #[.int .i64 24, .int .i64 0, .int .i64 0, .int .i64 0, .int .i64 0])).run Try.prog W = .ok true W := fun W => by
    have := eqIN ⟨24, 0, 0, 0, 0⟩ ⟨24, 0, 0, 0, 0⟩ W
    rw [(inB_iff _ _).2 rfl] at this
    exact this
  have hgd := gdIN
  go_enter Try.func70, Try.ntmps70
  go_wp2_with fail
  have Bs : Blk (w.alloc (.cells #[.int .i64 24, .int .i64 0, .int .i64 0, .int .i64 0, .int .i64 0] 42)) w.heap.size 42 #[.int .i64 24, .int .i64 0, .int .i64 0, .int .i64 0, .int .i64 0] := Blk.new _ _ _
  have HB : Hid (Below w.heap.size w (w.alloc (.cells #[.int .i64 24, .int .i64 0, .int .i64 0, .int .i64 0, .int .i64 0] 42))) := hid (by exact blBy)
  generalize w.alloc (.cells #[.int .i64 24, .int .i64 0, .int .i64 0, .int .i64 0, .int .i64 0] 42) = V at *
  have e0 := Bs.cell 0 _ rfl
  have e1 := Bs.cell 1 _ rfl
  have e2 := Bs.cell 2 _ rfl
  have e3 := Bs.cell 3 _ rfl
  have e4 := Bs.cell 4 _ rfl
  simp only [List.getElem_toArray, List.getElem_cons_succ, List.getElem_cons_zero] at e0 e1 e2 e3 e4
  clear Bs
  go_region_held3 (fun W => W.cell? ⟨w.heap.size, 0, none⟩ = some (.int .i64 24) ∧ W.cell? ⟨w.heap.size, 1, none⟩ = some (.int .i64 0) ∧ W.cell? ⟨w.heap.size, 2, none⟩ = some (.int .i64 0) ∧ W.cell? ⟨w.heap.size, 3, none⟩ = some (.int .i64 0) ∧ W.cell? ⟨w.heap.size, 4, none⟩ = some (.int .i64 0)) (first | exact ⟨e0, e1, e2, e3, e4⟩ | exact ⟨cell_below e0 (bl_drew (below_alloc _)), cell_below e1 (bl_drew (below_alloc _)), cell_below e2 (bl_drew (below_alloc _)), cell_below e3 (bl_drew (below_alloc _)), cell_below e4 (bl_drew (below_alloc _))⟩) (first | (go_at_call 84; refine (HS.out _).mono ?_; rintro e w1 ⟨rfl, hbx⟩; replace e0 := cell_below e0 (below_trans (by first | exact Below.refl _ _ | exact below_drew1 _ | exact below_drewN _ _ | exact bl_drew (below_alloc _)) hbx); replace e1 := cell_below e1 (below_trans (by first | exact Below.refl _ _ | exact below_drew1 _ | exact below_drewN _ _ | exact bl_drew (below_alloc _)) hbx); replace e2 := cell_below e2 (below_trans (by first | exact Below.refl _ _ | exact below_drew1 _ | exact below_drewN _ _ | exact bl_drew (below_alloc _)) hbx); replace e3 := cell_below e3 (below_trans (by first | exact Below.refl _ _ | exact below_drew1 _ | exact below_drewN _ _ | exact bl_drew (below_alloc _)) hbx); replace e4 := cell_below e4 (below_trans (by first | exact Below.refl _ _ | exact below_drew1 _ | exact below_drewN _ _ | exact bl_drew (below_alloc _)) hbx); replace HB := hid (below_trans HB.out (below_trans (by first | exact Below.refl _ _ | exact below_drew1 _ | exact below_drewN _ _ | exact bl_drew (below_alloc _)) hbx)); clear hbx))
  all_goals
    go_wp2
    go_ret
    exact ⟨rfl, HB.out⟩
end Go.Proofs.Ytliohglpbmpbhaa
