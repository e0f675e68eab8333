/-
  What a valid program's steps are asked: where all is well, operation by operation.
  What a valid program's steps are asked: where all is well, operation by operation.
-/
import Derived.Test.YtliohglpbmpbhaaCOPw
namespace Go.Proofs.Ytliohglpbmpbhaa
open Go.RowKit
set_option maxRecDepth 1000000
set_option linter.unusedVariables false
set_option linter.unusedSimpArgs false
set_option maxHeartbeats 1000000
theorem rdTag (w : World) (bs : List BV) (ba : Option Addr) (bc : Nat) (caps : Array Value)  : Calls Try.prog 68 #[.slice ba bs.length bc, .agg #[.int .i64 1, .int .i64 0, .int .i64 0, .int .i64 0, .int .i64 0], .func (.func 67) #[] caps] w fun e w' => e = .returned (.bool true) ∧ Below w.heap.size w w' := by
  have HS : Hid (∀ W, Calls Try.prog 84 #[.int .i64 1, .slice none 0 0] W fun e w' => e = .returned (.agg #[.int .i64 1, .int .i64 0, .int .i64 0, .int .i64 0, .int .i64 0]) ∧ Below W.heap.size W w') := hid fun W => stepT W 1 [] (by simp) none 0 (rowS_nil _ _ _)
  have heq : ∀ W, (Op.equalIn 10000 42 (.agg #[.int .i64 1, .int .i64 0, .int .i64 0, .int .i64 0, .int .i64 0]) (.agg #[.int .i64 1, .int .i64 0, .int .i64 0, .int .i64 0, .int .i64 0])).run Try.prog W = .ok true W := fun W => by
    have := eqIN ⟨1, 0, 0, 0, 0⟩ ⟨1, 0, 0, 0, 0⟩ W
    rw [(inB_iff _ _).2 rfl] at this
    exact this
  have hgd := gdIN
  go_enter Try.func68, Try.ntmps68
  go_wp2_with fail
  have Bs : Blk (w.alloc (.cells #[.int .i64 1, .int .i64 0, .int .i64 0, .int .i64 0, .int .i64 0] 42)) w.heap.size 42 #[.int .i64 1, .int .i64 0, .int .i64 0, .int .i64 0, .int .i64 0] := Blk.new _ _ _
  have HB : Hid (Below w.heap.size w (w.alloc (.cells #[.int .i64 1, .int .i64 0, .int .i64 0, .int .i64 0, .int .i64 0] 42))) := hid (by exact blBy)
  generalize w.alloc (.cells #[.int .i64 1, .int .i64 0, .int .i64 0, .int .i64 0, .int .i64 0] 42) = V at *
  have e0 := Bs.cell 0 _ rfl
  have e1 := Bs.cell 1 _ rfl
  have e2 := Bs.cell 2 _ rfl
  have e3 := Bs.cell 3 _ rfl
  have e4 := Bs.cell 4 _ rfl
  simp only [List.getElem_toArray, List.getElem_cons_succ, List.getElem_cons_zero] at e0 e1 e2 e3 e4
  clear Bs
  go_region_held3 (fun W => W.cell? ⟨w.heap.size, 0, none⟩ = some (.int .i64 1) ∧ W.cell? ⟨w.heap.size, 1, none⟩ = some (.int .i64 0) ∧ W.cell? ⟨w.heap.size, 2, none⟩ = some (.int .i64 0) ∧ W.cell? ⟨w.heap.size, 3, none⟩ = some (.int .i64 0) ∧ W.cell? ⟨w.heap.size, 4, none⟩ = some (.int .i64 0)) (first | exact ⟨e0, e1, e2, e3, e4⟩ | exact ⟨cell_below e0 (bl_drew (below_alloc _)), cell_below e1 (bl_drew (below_alloc _)), cell_below e2 (bl_drew (below_alloc _)), cell_below e3 (bl_drew (below_alloc _)), cell_below e4 (bl_drew (below_alloc _))⟩) (first | (go_at_call 84; refine (HS.out _).mono ?_; rintro e w1 ⟨rfl, hbx⟩; replace e0 := cell_below e0 (below_trans (by first | exact Below.refl _ _ | exact below_drew1 _ | exact below_drewN _ _ | exact bl_drew (below_alloc _)) hbx); replace e1 := cell_below e1 (below_trans (by first | exact Below.refl _ _ | exact below_drew1 _ | exact below_drewN _ _ | exact bl_drew (below_alloc _)) hbx); replace e2 := cell_below e2 (below_trans (by first | exact Below.refl _ _ | exact below_drew1 _ | exact below_drewN _ _ | exact bl_drew (below_alloc _)) hbx); replace e3 := cell_below e3 (below_trans (by first | exact Below.refl _ _ | exact below_drew1 _ | exact below_drewN _ _ | exact bl_drew (below_alloc _)) hbx); replace e4 := cell_below e4 (below_trans (by first | exact Below.refl _ _ | exact below_drew1 _ | exact below_drewN _ _ | exact bl_drew (below_alloc _)) hbx); replace HB := hid (below_trans HB.out (below_trans (by first | exact Below.refl _ _ | exact below_drew1 _ | exact below_drewN _ _ | exact bl_drew (below_alloc _)) hbx)); clear hbx))
  all_goals
    go_wp2
    go_ret
    exact ⟨rfl, HB.out⟩
theorem rdKeep (w : World) (bs : List BV) (ba : Option Addr) (bc : Nat) (caps : Array Value)  : Calls Try.prog 68 #[.slice ba bs.length bc, .agg #[.int .i64 13, .int .i64 0, .int .i64 0, .int .i64 0, .int .i64 0], .func (.func 67) #[] caps] w fun e w' => e = .returned (.bool true) ∧ Below w.heap.size w w' := by
  have HS : Hid (∀ W, Calls Try.prog 84 #[.int .i64 13, .slice none 0 0] W fun e w' => e = .returned (.agg #[.int .i64 13, .int .i64 0, .int .i64 0, .int .i64 0, .int .i64 0]) ∧ Below W.heap.size W w') := hid fun W => stepT W 13 [] (by simp) none 0 (rowS_nil _ _ _)
  have heq : ∀ W, (Op.equalIn 10000 42 (.agg #[.int .i64 13, .int .i64 0, .int .i64 0, .int .i64 0, .int .i64 0]) (.agg #[.int .i64 13, .int .i64 0, .int .i64 0, .int .i64 0, .int .i64 0])).run Try.prog W = .ok true W := fun W => by
    have := eqIN ⟨13, 0, 0, 0, 0⟩ ⟨13, 0, 0, 0, 0⟩ W
    rw [(inB_iff _ _).2 rfl] at this
    exact this
  have hgd := gdIN
  go_enter Try.func68, Try.ntmps68
  go_wp2_with fail
  have Bs : Blk (w.alloc (.cells #[.int .i64 13, .int .i64 0, .int .i64 0, .int .i64 0, .int .i64 0] 42)) w.heap.size 42 #[.int .i64 13, .int .i64 0, .int .i64 0, .int .i64 0, .int .i64 0] := Blk.new _ _ _
  have HB : Hid (Below w.heap.size w (w.alloc (.cells #[.int .i64 13, .int .i64 0, .int .i64 0, .int .i64 0, .int .i64 0] 42))) := hid (by exact blBy)
  generalize w.alloc (.cells #[.int .i64 13, .int .i64 0, .int .i64 0, .int .i64 0, .int .i64 0] 42) = V at *
  have e0 := Bs.cell 0 _ rfl
  have e1 := Bs.cell 1 _ rfl
  have e2 := Bs.cell 2 _ rfl
  have e3 := Bs.cell 3 _ rfl
  have e4 := Bs.cell 4 _ rfl
  simp only [List.getElem_toArray, List.getElem_cons_succ, List.getElem_cons_zero] at e0 e1 e2 e3 e4
  clear Bs
  go_region_held3 (fun W => W.cell? ⟨w.heap.size, 0, none⟩ = some (.int .i64 13) ∧ W.cell? ⟨w.heap.size, 1, none⟩ = some (.int .i64 0) ∧ W.cell? ⟨w.heap.size, 2, none⟩ = some (.int .i64 0) ∧ W.cell? ⟨w.heap.size, 3, none⟩ = some (.int .i64 0) ∧ W.cell? ⟨w.heap.size, 4, none⟩ = some (.int .i64 0)) (first | exact ⟨e0, e1, e2, e3, e4⟩ | exact ⟨cell_below e0 (bl_drew (below_alloc _)), cell_below e1 (bl_drew (below_alloc _)), cell_below e2 (bl_drew (below_alloc _)), cell_below e3 (bl_drew (below_alloc _)), cell_below e4 (bl_drew (below_alloc _))⟩) (first | (go_at_call 84; refine (HS.out _).mono ?_; rintro e w1 ⟨rfl, hbx⟩; replace e0 := cell_below e0 (below_trans (by first | exact Below.refl _ _ | exact below_drew1 _ | exact below_drewN _ _ | exact bl_drew (below_alloc _)) hbx); replace e1 := cell_below e1 (below_trans (by first | exact Below.refl _ _ | exact below_drew1 _ | exact below_drewN _ _ | exact bl_drew (below_alloc _)) hbx); replace e2 := cell_below e2 (below_trans (by first | exact Below.refl _ _ | exact below_drew1 _ | exact below_drewN _ _ | exact bl_drew (below_alloc _)) hbx); replace e3 := cell_below e3 (below_trans (by first | exact Below.refl _ _ | exact below_drew1 _ | exact below_drewN _ _ | exact bl_drew (below_alloc _)) hbx); replace e4 := cell_below e4 (below_trans (by first | exact Below.refl _ _ | exact below_drew1 _ | exact below_drewN _ _ | exact bl_drew (below_alloc _)) hbx); replace HB := hid (below_trans HB.out (below_trans (by first | exact Below.refl _ _ | exact below_drew1 _ | exact below_drewN _ _ | exact bl_drew (below_alloc _)) hbx)); clear hbx))
  all_goals
    go_wp2
    go_ret
    exact ⟨rfl, HB.out⟩
theorem rdCase (w : World) (bs : List BV) (ba : Option Addr) (bc : Nat) (caps : Array Value) (a b n k : Int) (ht : TagOk a n k) (hA : ∀ W, Below w.heap.size w W → Calls Try.prog 67 (#[.int .i64 b] ++ caps) W fun e w' => e = .returned (.bool true) ∧ Below W.heap.size W w') : Calls Try.prog 68 #[.slice ba bs.length bc, .agg #[.int .i64 2, .int .i64 a, .int .i64 b, .int .i64 0, .int .i64 0], .func (.func 67) #[] caps] w fun e w' => e = .returned (.bool true) ∧ Below w.heap.size w w' := by
  have HS : Hid (∀ W zb, Blk W zb 3 (ints [a, b]) → Calls Try.prog 84 #[.int .i64 2, .slice (some ⟨zb, 0, none⟩) 2 2] W fun e w' => e = .returned (.agg #[.int .i64 2, .int .i64 a, .int .i64 b, .int .i64 0, .int .i64 0]) ∧ Below W.heap.size W w') := hid fun W zb hB => stepL W 2 [a, b] (by simp) zb hB
  have heq : ∀ W, (Op.equalIn 10000 42 (.agg #[.int .i64 2, .int .i64 a, .int .i64 b, .int .i64 0, .int .i64 0]) (.agg #[.int .i64 2, .int .i64 a, .int .i64 b, .int .i64 0, .int .i64 0])).run Try.prog W = .ok true W := fun W => by
    have := eqIN ⟨2, a, b, 0, 0⟩ ⟨2, a, b, 0, 0⟩ W
    rw [(inB_iff _ _).2 rfl] at this
    exact this
  have hgd := gdIN
  have HT := hid (isTagT · a n k ht)
  have HA := hid hA
  go_enter Try.func68, Try.ntmps68
  go_wp2_with fail
  have Bs : Blk (w.alloc (.cells #[.int .i64 2, .int .i64 a, .int .i64 b, .int .i64 0, .int .i64 0] 42)) w.heap.size 42 #[.int .i64 2, .int .i64 a, .int .i64 b, .int .i64 0, .int .i64 0] := Blk.new _ _ _
  have HB : Hid (Below w.heap.size w (w.alloc (.cells #[.int .i64 2, .int .i64 a, .int .i64 b, .int .i64 0, .int .i64 0] 42))) := hid (by exact blBy)
  generalize w.alloc (.cells #[.int .i64 2, .int .i64 a, .int .i64 b, .int .i64 0, .int .i64 0] 42) = V at *
  have e0 := Bs.cell 0 _ rfl
  have e1 := Bs.cell 1 _ rfl
  have e2 := Bs.cell 2 _ rfl
  have e3 := Bs.cell 3 _ rfl
  have e4 := Bs.cell 4 _ rfl
  simp only [List.getElem_toArray, List.getElem_cons_succ, List.getElem_cons_zero] at e0 e1 e2 e3 e4
  clear Bs
  go_region_held3 (fun W => W.cell? ⟨w.heap.size, 0, none⟩ = some (.int .i64 2) ∧ W.cell? ⟨w.heap.size, 1, none⟩ = some (.int .i64 a) ∧ W.cell? ⟨w.heap.size, 2, none⟩ = some (.int .i64 b) ∧ W.cell? ⟨w.heap.size, 3, none⟩ = some (.int .i64 0) ∧ W.cell? ⟨w.heap.size, 4, none⟩ = some (.int .i64 0)) (first | exact ⟨e0, e1, e2, e3, e4⟩ | exact ⟨cell_below e0 (bl_drew (below_alloc _)), cell_below e1 (bl_drew (below_alloc _)), cell_below e2 (bl_drew (below_alloc _)), cell_below e3 (bl_drew (below_alloc _)), cell_below e4 (bl_drew (below_alloc _))⟩) (first | (go_at_call 84; refine (HS.out _ _ ((Blk.new _ _ _).kept (below_drew1 _))).mono ?_; rintro e w1 ⟨rfl, hbx⟩; replace e0 := cell_below e0 (below_trans (by first | exact Below.refl _ _ | exact below_drew1 _ | exact below_drewN _ _ | exact bl_drew (below_alloc _)) hbx); replace e1 := cell_below e1 (below_trans (by first | exact Below.refl _ _ | exact below_drew1 _ | exact below_drewN _ _ | exact bl_drew (below_alloc _)) hbx); replace e2 := cell_below e2 (below_trans (by first | exact Below.refl _ _ | exact below_drew1 _ | exact below_drewN _ _ | exact bl_drew (below_alloc _)) hbx); replace e3 := cell_below e3 (below_trans (by first | exact Below.refl _ _ | exact below_drew1 _ | exact below_drewN _ _ | exact bl_drew (below_alloc _)) hbx); replace e4 := cell_below e4 (below_trans (by first | exact Below.refl _ _ | exact below_drew1 _ | exact below_drewN _ _ | exact bl_drew (below_alloc _)) hbx); replace HB := hid (below_trans HB.out (below_trans (by first | exact Below.refl _ _ | exact below_drew1 _ | exact below_drewN _ _ | exact bl_drew (below_alloc _)) hbx)); clear hbx) | (go_at_call 72; refine (HT.out _).mono ?_; rintro e w2 ⟨rfl, rfl⟩) | (go_at_call 67; refine (HA.out _ (below_trans HB.out (by first | exact Below.refl _ _ | exact below_drew1 _ | exact below_drewN _ _))).mono ?_; rintro e w2 ⟨rfl, hbx⟩; replace e0 := cell_below e0 (below_trans (by first | exact Below.refl _ _ | exact below_drew1 _ | exact below_drewN _ _ | exact bl_drew (below_alloc _)) hbx); replace e1 := cell_below e1 (below_trans (by first | exact Below.refl _ _ | exact below_drew1 _ | exact below_drewN _ _ | exact bl_drew (below_alloc _)) hbx); replace e2 := cell_below e2 (below_trans (by first | exact Below.refl _ _ | exact below_drew1 _ | exact below_drewN _ _ | exact bl_drew (below_alloc _)) hbx); replace e3 := cell_below e3 (below_trans (by first | exact Below.refl _ _ | exact below_drew1 _ | exact below_drewN _ _ | exact bl_drew (below_alloc _)) hbx); replace e4 := cell_below e4 (below_trans (by first | exact Below.refl _ _ | exact below_drew1 _ | exact below_drewN _ _ | exact bl_drew (below_alloc _)) hbx); replace HB := hid (below_trans HB.out (below_trans (by first | exact Below.refl _ _ | exact below_drew1 _ | exact below_drewN _ _ | exact bl_drew (below_alloc _)) hbx)); clear hbx))
  all_goals
    go_wp2
    go_ret
    exact ⟨rfl, HB.out⟩
theorem rdGo (w : World) (bs : List BV) (ba : Option Addr) (bc : Nat) (caps : Array Value)  : Calls Try.prog 68 #[.slice ba bs.length bc, .agg #[.int .i64 4, .int .i64 0, .int .i64 0, .int .i64 0, .int .i64 0], .func (.func 67) #[] caps] w fun e w' => e = .returned (.bool true) ∧ Below w.heap.size w w' := by
  have HS : Hid (∀ W zb, Blk W zb 3 (ints [0]) → Calls Try.prog 84 #[.int .i64 4, .slice (some ⟨zb, 0, none⟩) 1 1] W fun e w' => e = .returned (.agg #[.int .i64 4, .int .i64 0, .int .i64 0, .int .i64 0, .int .i64 0]) ∧ Below W.heap.size W w') := hid fun W zb hB => stepL W 4 [0] (by simp) zb hB
  have heq : ∀ W, (Op.equalIn 10000 42 (.agg #[.int .i64 4, .int .i64 0, .int .i64 0, .int .i64 0, .int .i64 0]) (.agg #[.int .i64 4, .int .i64 0, .int .i64 0, .int .i64 0, .int .i64 0])).run Try.prog W = .ok true W := fun W => by
    have := eqIN ⟨4, 0, 0, 0, 0⟩ ⟨4, 0, 0, 0, 0⟩ W
    rw [(inB_iff _ _).2 rfl] at this
    exact this
  have hgd := gdIN
  go_enter Try.func68, Try.ntmps68
  go_wp2_with fail
  have Bs : Blk (w.alloc (.cells #[.int .i64 4, .int .i64 0, .int .i64 0, .int .i64 0, .int .i64 0] 42)) w.heap.size 42 #[.int .i64 4, .int .i64 0, .int .i64 0, .int .i64 0, .int .i64 0] := Blk.new _ _ _
  have HB : Hid (Below w.heap.size w (w.alloc (.cells #[.int .i64 4, .int .i64 0, .int .i64 0, .int .i64 0, .int .i64 0] 42))) := hid (by exact blBy)
  generalize w.alloc (.cells #[.int .i64 4, .int .i64 0, .int .i64 0, .int .i64 0, .int .i64 0] 42) = V at *
  have e0 := Bs.cell 0 _ rfl
  have e1 := Bs.cell 1 _ rfl
  have e2 := Bs.cell 2 _ rfl
  have e3 := Bs.cell 3 _ rfl
  have e4 := Bs.cell 4 _ rfl
  simp only [List.getElem_toArray, List.getElem_cons_succ, List.getElem_cons_zero] at e0 e1 e2 e3 e4
  clear Bs
  refine wp_region_held_drew (S := fun W => W.cell? ⟨w.heap.size, 0, none⟩ = some (.int .i64 4) ∧ W.cell? ⟨w.heap.size, 1, none⟩ = some (.int .i64 0) ∧ W.cell? ⟨w.heap.size, 2, none⟩ = some (.int .i64 0) ∧ W.cell? ⟨w.heap.size, 3, none⟩ = some (.int .i64 0) ∧ W.cell? ⟨w.heap.size, 4, none⟩ = some (.int .i64 0)) (by kernel_rfl) ?_ (fun hHeld => ?_)
  · exact ⟨e0, e1, e2, e3, e4⟩
  refine wpAnyH_take (i := 0) (v := ?_) rfl (by kernel_rfl) (by kernel_rfl) (by kernel_rfl) (fun _ _ _ h => h) (Or.inl ⟨by rfl, ?_⟩) (by assumption) ?_
  rotate_left
  · (intro w hSw; (try dsimp only at hSw); go_simp; (try with_reducible rfl))
  try simp only [Act.put, List.getElem_toArray, List.getElem_cons_succ, List.getElem_cons_zero, List.setIfInBounds_toArray, List.set_cons_zero, List.set_cons_succ]
  refine wpAnyH_take (i := 1) (v := ?_) rfl (by kernel_rfl) (by kernel_rfl) (by kernel_rfl) (fun _ _ _ h => h) (Or.inl ⟨by rfl, ?_⟩) (by assumption) ?_
  rotate_left
  · (intro w hSw; (try dsimp only at hSw); go_simp; (try with_reducible rfl))
  try simp only [Act.put, List.getElem_toArray, List.getElem_cons_succ, List.getElem_cons_zero, List.setIfInBounds_toArray, List.set_cons_zero, List.set_cons_succ]
  refine wpAnyH_take (i := 2) (v := ?_) rfl (by kernel_rfl) (by kernel_rfl) (by kernel_rfl) (fun _ _ _ h => h) (Or.inl ⟨by rfl, ?_⟩) (by assumption) ?_
  rotate_left
  · (intro w hSw; (try dsimp only at hSw); go_simp; (try with_reducible rfl))
  try simp only [Act.put, List.getElem_toArray, List.getElem_cons_succ, List.getElem_cons_zero, List.setIfInBounds_toArray, List.set_cons_zero, List.set_cons_succ]
  refine wpAnyH_take (i := 3) (v := ?_) rfl (by kernel_rfl) (by kernel_rfl) (by kernel_rfl) (fun _ _ _ h => h) (Or.inl ⟨by rfl, ?_⟩) (by assumption) ?_
  rotate_left
  · (intro w hSw; (try dsimp only at hSw); go_simp; (try with_reducible rfl))
  try simp only [Act.put, List.getElem_toArray, List.getElem_cons_succ, List.getElem_cons_zero, List.setIfInBounds_toArray, List.set_cons_zero, List.set_cons_succ]
  refine wpAnyH_take (i := 4) (v := ?_) rfl (by kernel_rfl) (by kernel_rfl) (by kernel_rfl) (fun _ _ _ h => h) (Or.inl ⟨by rfl, ?_⟩) (by assumption) ?_
  rotate_left
  · (intro w hSw; (try dsimp only at hSw); go_simp; (try with_reducible rfl))
  try simp only [Act.put, List.getElem_toArray, List.getElem_cons_succ, List.getElem_cons_zero, List.setIfInBounds_toArray, List.set_cons_zero, List.set_cons_succ]
  refine wpAnyH_ready (rs := [5]) (by kernel_rfl) (by simp) ?_
  refine AllReadyH.cons rfl (fun K hK => ?_) AllReadyH.nil
  go_simp
  refine hK.out _ _ ?_ (fun hHeld => ?_)
  · first | exact ⟨e0, e1, e2, e3, e4⟩ | exact ⟨cell_below e0 (bl_drew (below_alloc _)), cell_below e1 (bl_drew (below_alloc _)), cell_below e2 (bl_drew (below_alloc _)), cell_below e3 (bl_drew (below_alloc _)), cell_below e4 (bl_drew (below_alloc _))⟩ | exact ⟨cell_below e0 (below_alloc _), cell_below e1 (below_alloc _), cell_below e2 (below_alloc _), cell_below e3 (below_alloc _), cell_below e4 (below_alloc _)⟩
  clear hK K
  try simp only [Act.put, List.getElem_toArray, List.getElem_cons_succ, List.getElem_cons_zero, List.setIfInBounds_toArray, List.set_cons_zero, List.set_cons_succ]
  refine wpAnyH_ready (rs := [6]) (by kernel_rfl) (by simp) ?_
  refine AllReadyH.cons rfl (fun K hK => ?_) AllReadyH.nil
  go_simp
  go_wp2_with (go_at_call 84; refine (HS.out _ _ ((Blk.new _ _ _).kept (below_drew1 _))).mono ?_; rintro e w1 ⟨rfl, hbx⟩; replace e0 := cell_below e0 (below_trans (by first | exact Below.refl _ _ | exact below_drew1 _ | exact below_drewN _ _ | exact bl_drew (below_alloc _)) hbx); replace e1 := cell_below e1 (below_trans (by first | exact Below.refl _ _ | exact below_drew1 _ | exact below_drewN _ _ | exact bl_drew (below_alloc _)) hbx); replace e2 := cell_below e2 (below_trans (by first | exact Below.refl _ _ | exact below_drew1 _ | exact below_drewN _ _ | exact bl_drew (below_alloc _)) hbx); replace e3 := cell_below e3 (below_trans (by first | exact Below.refl _ _ | exact below_drew1 _ | exact below_drewN _ _ | exact bl_drew (below_alloc _)) hbx); replace e4 := cell_below e4 (below_trans (by first | exact Below.refl _ _ | exact below_drew1 _ | exact below_drewN _ _ | exact bl_drew (below_alloc _)) hbx); replace HB := hid (below_trans HB.out (below_trans (by first | exact Below.refl _ _ | exact below_drew1 _ | exact below_drewN _ _ | exact bl_drew (below_alloc _)) hbx)); clear hbx)
  refine hK.out _ _ ?_ (fun hHeld => ?_)
  · first | exact ⟨e0, e1, e2, e3, e4⟩ | exact ⟨cell_below e0 (bl_drew (below_alloc _)), cell_below e1 (bl_drew (below_alloc _)), cell_below e2 (bl_drew (below_alloc _)), cell_below e3 (bl_drew (below_alloc _)), cell_below e4 (bl_drew (below_alloc _))⟩ | exact ⟨cell_below e0 (below_alloc _), cell_below e1 (below_alloc _), cell_below e2 (below_alloc _), cell_below e3 (below_alloc _), cell_below e4 (below_alloc _)⟩
  clear hK K
  try simp only [Act.put, List.getElem_toArray, List.getElem_cons_succ, List.getElem_cons_zero, List.setIfInBounds_toArray, List.set_cons_zero, List.set_cons_succ]
  refine wpAnyH_take (i := 7) (v := ?_) rfl (by kernel_rfl) (by kernel_rfl) (by kernel_rfl) (fun _ _ _ h => h) (Or.inl ⟨by rfl, ?_⟩) (by assumption) ?_
  rotate_left
  · (intro w hSw; (try dsimp only at hSw); go_simp; (try with_reducible rfl))
  try simp only [Act.put, List.getElem_toArray, List.getElem_cons_succ, List.getElem_cons_zero, List.setIfInBounds_toArray, List.set_cons_zero, List.set_cons_succ]
  refine wpAnyH_take (i := 8) (v := ?_) rfl (by kernel_rfl) (by kernel_rfl) (by kernel_rfl) (fun _ _ _ h => h) (Or.inl ⟨by rfl, ?_⟩) (by assumption) ?_
  rotate_left
  · (intro w hSw; (try dsimp only at hSw); go_simp; (try with_reducible rfl))
  try simp only [Act.put, List.getElem_toArray, List.getElem_cons_succ, List.getElem_cons_zero, List.setIfInBounds_toArray, List.set_cons_zero, List.set_cons_succ]
  refine wpAnyH_take (i := 9) (v := ?_) rfl (by kernel_rfl) (by kernel_rfl) (by kernel_rfl) (fun _ _ _ h => h) (Or.inl ⟨by rfl, ?_⟩) (by assumption) ?_
  rotate_left
  · (intro w hSw; (try dsimp only at hSw); go_simp; (try with_reducible rfl))
  try simp only [Act.put, List.getElem_toArray, List.getElem_cons_succ, List.getElem_cons_zero, List.setIfInBounds_toArray, List.set_cons_zero, List.set_cons_succ]
  refine wpAnyH_take (i := 10) (v := ?_) rfl (by kernel_rfl) (by kernel_rfl) (by kernel_rfl) (fun _ _ _ h => h) (Or.inl ⟨by rfl, ?_⟩) (by assumption) ?_
  rotate_left
  · (intro w hSw; (try dsimp only at hSw); go_simp; (try with_reducible rfl))
  try simp only [Act.put, List.getElem_toArray, List.getElem_cons_succ, List.getElem_cons_zero, List.setIfInBounds_toArray, List.set_cons_zero, List.set_cons_succ]
  refine wpAnyH_take (i := 11) (v := ?_) rfl (by kernel_rfl) (by kernel_rfl) (by kernel_rfl) (fun _ _ _ h => h) (Or.inl ⟨by rfl, ?_⟩) (by assumption) ?_
  rotate_left
  · (intro w hSw; (try dsimp only at hSw); go_simp; (try with_reducible rfl))
  try simp only [Act.put, List.getElem_toArray, List.getElem_cons_succ, List.getElem_cons_zero, List.setIfInBounds_toArray, List.set_cons_zero, List.set_cons_succ]
  refine wpAnyH_take (i := 12) (v := ?_) rfl (by kernel_rfl) (by kernel_rfl) (by kernel_rfl) (fun _ _ _ h => h) (Or.inl ⟨by rfl, ?_⟩) (by assumption) ?_
  rotate_left
  · (intro w hSw; (try dsimp only at hSw); go_simp; (try with_reducible rfl))
  try simp only [Act.put, List.getElem_toArray, List.getElem_cons_succ, List.getElem_cons_zero, List.setIfInBounds_toArray, List.set_cons_zero, List.set_cons_succ]
  refine wpAnyH_take (i := 13) (v := undef) rfl (by kernel_rfl) (by kernel_rfl) (by kernel_rfl) (fun _ _ _ h => h) (Or.inr ⟨by kernel_rfl, rfl⟩) (by assumption) ?_
  try simp only [Act.put, List.getElem_toArray, List.getElem_cons_succ, List.getElem_cons_zero, List.setIfInBounds_toArray, List.set_cons_zero, List.set_cons_succ]
  refine wpAnyH_take (i := 14) (v := undef) rfl (by kernel_rfl) (by kernel_rfl) (by kernel_rfl) (fun _ _ _ h => h) (Or.inr ⟨by kernel_rfl, rfl⟩) (by assumption) ?_
  try simp only [Act.put, List.getElem_toArray, List.getElem_cons_succ, List.getElem_cons_zero, List.setIfInBounds_toArray, List.set_cons_zero, List.set_cons_succ]
  refine wpAnyH_take (i := 15) (v := undef) rfl (by kernel_rfl) (by kernel_rfl) (by kernel_rfl) (fun _ _ _ h => h) (Or.inr ⟨by kernel_rfl, rfl⟩) (by assumption) ?_
  try simp only [Act.put, List.getElem_toArray, List.getElem_cons_succ, List.getElem_cons_zero, List.setIfInBounds_toArray, List.set_cons_zero, List.set_cons_succ]
  refine wpAnyH_take (i := 16) (v := undef) rfl (by kernel_rfl) (by kernel_rfl) (by kernel_rfl) (fun _ _ _ h => h) (Or.inr ⟨by kernel_rfl, rfl⟩) (by assumption) ?_
  try simp only [Act.put, List.getElem_toArray, List.getElem_cons_succ, List.getElem_cons_zero, List.setIfInBounds_toArray, List.set_cons_zero, List.set_cons_succ]
  refine wpAnyH_take (i := 17) (v := ?_) rfl (by kernel_rfl) (by kernel_rfl) (by kernel_rfl) (fun _ _ _ h => h) (Or.inl ⟨by rfl, ?_⟩) (by assumption) ?_
  rotate_left
  · (intro w hSw; (try dsimp only at hSw); go_simp; (try with_reducible rfl))
  try simp only [Act.put, List.getElem_toArray, List.getElem_cons_succ, List.getElem_cons_zero, List.setIfInBounds_toArray, List.set_cons_zero, List.set_cons_succ]
  refine wpAnyH_take (i := 18) (v := ?_) rfl (by kernel_rfl) (by kernel_rfl) (by kernel_rfl) (fun _ _ _ h => h) (Or.inl ⟨by rfl, ?_⟩) (by assumption) ?_
  rotate_left
  · (intro w hSw; (try dsimp only at hSw); go_simp; (try with_reducible rfl))
  try simp only [Act.put, List.getElem_toArray, List.getElem_cons_succ, List.getElem_cons_zero, List.setIfInBounds_toArray, List.set_cons_zero, List.set_cons_succ]
  refine wpAnyH_take (i := 19) (v := ?_) rfl (by kernel_rfl) (by kernel_rfl) (by kernel_rfl) (fun _ _ _ h => h) (Or.inl ⟨by rfl, ?_⟩) (by assumption) ?_
  rotate_left
  · (intro w hSw; (try dsimp only at hSw); go_simp; (try with_reducible rfl))
  try simp only [Act.put, List.getElem_toArray, List.getElem_cons_succ, List.getElem_cons_zero, List.setIfInBounds_toArray, List.set_cons_zero, List.set_cons_succ]
  refine wpAnyH_done (by kernel_rfl) ?_ _
  all_goals
    go_wp2
    go_ret
    exact ⟨rfl, HB.out⟩
theorem rdRead (w : World) (bs : List BV) (ba : Option Addr) (bc : Nat) (caps : Array Value) (a : Int) (hs : 1 ≤ a ∧ a ≤ 16) : Calls Try.prog 68 #[.slice ba bs.length bc, .agg #[.int .i64 5, .int .i64 a, .int .i64 0, .int .i64 0, .int .i64 0], .func (.func 67) #[] caps] w fun e w' => e = .returned (.bool true) ∧ Below w.heap.size w w' := by
  have HS : Hid (∀ W zb, Blk W zb 3 (ints [a]) → Calls Try.prog 84 #[.int .i64 5, .slice (some ⟨zb, 0, none⟩) 1 1] W fun e w' => e = .returned (.agg #[.int .i64 5, .int .i64 a, .int .i64 0, .int .i64 0, .int .i64 0]) ∧ Below W.heap.size W w') := hid fun W zb hB => stepL W 5 [a] (by simp) zb hB
  have heq : ∀ W, (Op.equalIn 10000 42 (.agg #[.int .i64 5, .int .i64 a, .int .i64 0, .int .i64 0, .int .i64 0]) (.agg #[.int .i64 5, .int .i64 a, .int .i64 0, .int .i64 0, .int .i64 0])).run Try.prog W = .ok true W := fun W => by
    have := eqIN ⟨5, a, 0, 0, 0⟩ ⟨5, a, 0, 0, 0⟩ W
    rw [(inB_iff _ _).2 rfl] at this
    exact this
  have hgd := gdIN
  have HG := hid (isSingleT · a hs)
  go_enter Try.func68, Try.ntmps68
  go_wp2_with fail
  have Bs : Blk (w.alloc (.cells #[.int .i64 5, .int .i64 a, .int .i64 0, .int .i64 0, .int .i64 0] 42)) w.heap.size 42 #[.int .i64 5, .int .i64 a, .int .i64 0, .int .i64 0, .int .i64 0] := Blk.new _ _ _
  have HB : Hid (Below w.heap.size w (w.alloc (.cells #[.int .i64 5, .int .i64 a, .int .i64 0, .int .i64 0, .int .i64 0] 42))) := hid (by exact blBy)
  generalize w.alloc (.cells #[.int .i64 5, .int .i64 a, .int .i64 0, .int .i64 0, .int .i64 0] 42) = V at *
  have e0 := Bs.cell 0 _ rfl
  have e1 := Bs.cell 1 _ rfl
  have e2 := Bs.cell 2 _ rfl
  have e3 := Bs.cell 3 _ rfl
  have e4 := Bs.cell 4 _ rfl
  simp only [List.getElem_toArray, List.getElem_cons_succ, List.getElem_cons_zero] at e0 e1 e2 e3 e4
  clear Bs
  go_region_held3 (fun W => W.cell? ⟨w.heap.size, 0, none⟩ = some (.int .i64 5) ∧ W.cell? ⟨w.heap.size, 1, none⟩ = some (.int .i64 a) ∧ W.cell? ⟨w.heap.size, 2, none⟩ = some (.int .i64 0) ∧ W.cell? ⟨w.heap.size, 3, none⟩ = some (.int .i64 0) ∧ W.cell? ⟨w.heap.size, 4, none⟩ = some (.int .i64 0)) (first | exact ⟨e0, e1, e2, e3, e4⟩ | exact ⟨cell_below e0 (bl_drew (below_alloc _)), cell_below e1 (bl_drew (below_alloc _)), cell_below e2 (bl_drew (below_alloc _)), cell_below e3 (bl_drew (below_alloc _)), cell_below e4 (bl_drew (below_alloc _))⟩) (first | (go_at_call 84; refine (HS.out _ _ ((Blk.new _ _ _).kept (below_drew1 _))).mono ?_; rintro e w1 ⟨rfl, hbx⟩; replace e0 := cell_below e0 (below_trans (by first | exact Below.refl _ _ | exact below_drew1 _ | exact below_drewN _ _ | exact bl_drew (below_alloc _)) hbx); replace e1 := cell_below e1 (below_trans (by first | exact Below.refl _ _ | exact below_drew1 _ | exact below_drewN _ _ | exact bl_drew (below_alloc _)) hbx); replace e2 := cell_below e2 (below_trans (by first | exact Below.refl _ _ | exact below_drew1 _ | exact below_drewN _ _ | exact bl_drew (below_alloc _)) hbx); replace e3 := cell_below e3 (below_trans (by first | exact Below.refl _ _ | exact below_drew1 _ | exact below_drewN _ _ | exact bl_drew (below_alloc _)) hbx); replace e4 := cell_below e4 (below_trans (by first | exact Below.refl _ _ | exact below_drew1 _ | exact below_drewN _ _ | exact bl_drew (below_alloc _)) hbx); replace HB := hid (below_trans HB.out (below_trans (by first | exact Below.refl _ _ | exact below_drew1 _ | exact below_drewN _ _ | exact bl_drew (below_alloc _)) hbx)); clear hbx) | (go_at_call 85; refine (HG.out _).mono ?_; rintro e w2 ⟨rfl, rfl⟩))
  all_goals
    go_wp2
    go_ret
    exact ⟨rfl, HB.out⟩
theorem rdSym (w : World) (bs : List BV) (ba : Option Addr) (bc : Nat) (caps : Array Value) (k : Nat) (hp : PgR w (.slice ba bs.length bc) bs) (hl : k < bs.length) (h1 : bs[k].k.dec.length = 0) (h2 : bs[k].k.enc.length = 0) : Calls Try.prog 68 #[.slice ba bs.length bc, .agg #[.int .i64 6, .int .i64 (k : Int), .int .i64 0, .int .i64 0, .int .i64 0], .func (.func 67) #[] caps] w fun e w' => e = .returned (.bool true) ∧ Below w.heap.size w w' := by
  have HS : Hid (∀ W zb, Blk W zb 3 (ints [(k : Int)]) → Calls Try.prog 84 #[.int .i64 6, .slice (some ⟨zb, 0, none⟩) 1 1] W fun e w' => e = .returned (.agg #[.int .i64 6, .int .i64 (k : Int), .int .i64 0, .int .i64 0, .int .i64 0]) ∧ Below W.heap.size W w') := hid fun W zb hB => stepL W 6 [(k : Int)] (by simp) zb hB
  have heq : ∀ W, (Op.equalIn 10000 42 (.agg #[.int .i64 6, .int .i64 (k : Int), .int .i64 0, .int .i64 0, .int .i64 0]) (.agg #[.int .i64 6, .int .i64 (k : Int), .int .i64 0, .int .i64 0, .int .i64 0])).run Try.prog W = .ok true W := fun W => by
    have := eqIN ⟨6, (k : Int), 0, 0, 0⟩ ⟨6, (k : Int), 0, 0, 0⟩ W
    rw [(inB_iff _ _).2 rfl] at this
    exact this
  have hgd := gdIN
  have HE := hid (fun W hW => isEnumT W bs ba bc (hp.kept hW) k hl h1 h2)
  go_enter Try.func68, Try.ntmps68
  go_wp2_with fail
  have Bs : Blk (w.alloc (.cells #[.int .i64 6, .int .i64 (k : Int), .int .i64 0, .int .i64 0, .int .i64 0] 42)) w.heap.size 42 #[.int .i64 6, .int .i64 (k : Int), .int .i64 0, .int .i64 0, .int .i64 0] := Blk.new _ _ _
  have HB : Hid (Below w.heap.size w (w.alloc (.cells #[.int .i64 6, .int .i64 (k : Int), .int .i64 0, .int .i64 0, .int .i64 0] 42))) := hid (by exact blBy)
  generalize w.alloc (.cells #[.int .i64 6, .int .i64 (k : Int), .int .i64 0, .int .i64 0, .int .i64 0] 42) = V at *
  have e0 := Bs.cell 0 _ rfl
  have e1 := Bs.cell 1 _ rfl
  have e2 := Bs.cell 2 _ rfl
  have e3 := Bs.cell 3 _ rfl
  have e4 := Bs.cell 4 _ rfl
  simp only [List.getElem_toArray, List.getElem_cons_succ, List.getElem_cons_zero] at e0 e1 e2 e3 e4
  clear Bs
  go_region_held3 (fun W => W.cell? ⟨w.heap.size, 0, none⟩ = some (.int .i64 6) ∧ W.cell? ⟨w.heap.size, 1, none⟩ = some (.int .i64 (k : Int)) ∧ W.cell? ⟨w.heap.size, 2, none⟩ = some (.int .i64 0) ∧ W.cell? ⟨w.heap.size, 3, none⟩ = some (.int .i64 0) ∧ W.cell? ⟨w.heap.size, 4, none⟩ = some (.int .i64 0)) (first | exact ⟨e0, e1, e2, e3, e4⟩ | exact ⟨cell_below e0 (bl_drew (below_alloc _)), cell_below e1 (bl_drew (below_alloc _)), cell_below e2 (bl_drew (below_alloc _)), cell_below e3 (bl_drew (below_alloc _)), cell_below e4 (bl_drew (below_alloc _))⟩) (first | (go_at_call 84; refine (HS.out _ _ ((Blk.new _ _ _).kept (below_drew1 _))).mono ?_; rintro e w1 ⟨rfl, hbx⟩; replace e0 := cell_below e0 (below_trans (by first | exact Below.refl _ _ | exact below_drew1 _ | exact below_drewN _ _ | exact bl_drew (below_alloc _)) hbx); replace e1 := cell_below e1 (below_trans (by first | exact Below.refl _ _ | exact below_drew1 _ | exact below_drewN _ _ | exact bl_drew (below_alloc _)) hbx); replace e2 := cell_below e2 (below_trans (by first | exact Below.refl _ _ | exact below_drew1 _ | exact below_drewN _ _ | exact bl_drew (below_alloc _)) hbx); replace e3 := cell_below e3 (below_trans (by first | exact Below.refl _ _ | exact below_drew1 _ | exact below_drewN _ _ | exact bl_drew (below_alloc _)) hbx); replace e4 := cell_below e4 (below_trans (by first | exact Below.refl _ _ | exact below_drew1 _ | exact below_drewN _ _ | exact bl_drew (below_alloc _)) hbx); replace HB := hid (below_trans HB.out (below_trans (by first | exact Below.refl _ _ | exact below_drew1 _ | exact below_drewN _ _ | exact bl_drew (below_alloc _)) hbx)); clear hbx) | (go_at_call 86; refine (HE.out _ (below_trans HB.out (by first | exact Below.refl _ _ | exact below_drew1 _ | exact below_drewN _ _))).mono ?_; rintro e w2 ⟨rfl, hbx⟩; replace e0 := cell_below e0 (below_trans (by first | exact Below.refl _ _ | exact below_drew1 _ | exact below_drewN _ _ | exact bl_drew (below_alloc _)) hbx); replace e1 := cell_below e1 (below_trans (by first | exact Below.refl _ _ | exact below_drew1 _ | exact below_drewN _ _ | exact bl_drew (below_alloc _)) hbx); replace e2 := cell_below e2 (below_trans (by first | exact Below.refl _ _ | exact below_drew1 _ | exact below_drewN _ _ | exact bl_drew (below_alloc _)) hbx); replace e3 := cell_below e3 (below_trans (by first | exact Below.refl _ _ | exact below_drew1 _ | exact below_drewN _ _ | exact bl_drew (below_alloc _)) hbx); replace e4 := cell_below e4 (below_trans (by first | exact Below.refl _ _ | exact below_drew1 _ | exact below_drewN _ _ | exact bl_drew (below_alloc _)) hbx); replace HB := hid (below_trans HB.out (below_trans (by first | exact Below.refl _ _ | exact below_drew1 _ | exact below_drewN _ _ | exact bl_drew (below_alloc _)) hbx)); clear hbx))
  all_goals
    go_wp2
    go_ret
    exact ⟨rfl, HB.out⟩
theorem rdSet (w : World) (bs : List BV) (ba : Option Addr) (bc : Nat) (caps : Array Value) (a : Int) (hf : 1 ≤ a ∧ a ≤ 536870911) : Calls Try.prog 68 #[.slice ba bs.length bc, .agg #[.int .i64 7, .int .i64 a, .int .i64 0, .int .i64 0, .int .i64 0], .func (.func 67) #[] caps] w fun e w' => e = .returned (.bool true) ∧ Below w.heap.size w w' := by
  have HS : Hid (∀ W zb, Blk W zb 3 (ints [a]) → Calls Try.prog 84 #[.int .i64 7, .slice (some ⟨zb, 0, none⟩) 1 1] W fun e w' => e = .returned (.agg #[.int .i64 7, .int .i64 a, .int .i64 0, .int .i64 0, .int .i64 0]) ∧ Below W.heap.size W w') := hid fun W zb hB => stepL W 7 [a] (by simp) zb hB
  have heq : ∀ W, (Op.equalIn 10000 42 (.agg #[.int .i64 7, .int .i64 a, .int .i64 0, .int .i64 0, .int .i64 0]) (.agg #[.int .i64 7, .int .i64 a, .int .i64 0, .int .i64 0, .int .i64 0])).run Try.prog W = .ok true W := fun W => by
    have := eqIN ⟨7, a, 0, 0, 0⟩ ⟨7, a, 0, 0, 0⟩ W
    rw [(inB_iff _ _).2 rfl] at this
    exact this
  have hgd := gdIN
  have HF := hid (isFieldT · a hf)
  go_enter Try.func68, Try.ntmps68
  go_wp2_with fail
  have Bs : Blk (w.alloc (.cells #[.int .i64 7, .int .i64 a, .int .i64 0, .int .i64 0, .int .i64 0] 42)) w.heap.size 42 #[.int .i64 7, .int .i64 a, .int .i64 0, .int .i64 0, .int .i64 0] := Blk.new _ _ _
  have HB : Hid (Below w.heap.size w (w.alloc (.cells #[.int .i64 7, .int .i64 a, .int .i64 0, .int .i64 0, .int .i64 0] 42))) := hid (by exact blBy)
  generalize w.alloc (.cells #[.int .i64 7, .int .i64 a, .int .i64 0, .int .i64 0, .int .i64 0] 42) = V at *
  have e0 := Bs.cell 0 _ rfl
  have e1 := Bs.cell 1 _ rfl
  have e2 := Bs.cell 2 _ rfl
  have e3 := Bs.cell 3 _ rfl
  have e4 := Bs.cell 4 _ rfl
  simp only [List.getElem_toArray, List.getElem_cons_succ, List.getElem_cons_zero] at e0 e1 e2 e3 e4
  clear Bs
  go_region_held3 (fun W => W.cell? ⟨w.heap.size, 0, none⟩ = some (.int .i64 7) ∧ W.cell? ⟨w.heap.size, 1, none⟩ = some (.int .i64 a) ∧ W.cell? ⟨w.heap.size, 2, none⟩ = some (.int .i64 0) ∧ W.cell? ⟨w.heap.size, 3, none⟩ = some (.int .i64 0) ∧ W.cell? ⟨w.heap.size, 4, none⟩ = some (.int .i64 0)) (first | exact ⟨e0, e1, e2, e3, e4⟩ | exact ⟨cell_below e0 (bl_drew (below_alloc _)), cell_below e1 (bl_drew (below_alloc _)), cell_below e2 (bl_drew (below_alloc _)), cell_below e3 (bl_drew (below_alloc _)), cell_below e4 (bl_drew (below_alloc _))⟩) (first | (go_at_call 84; refine (HS.out _ _ ((Blk.new _ _ _).kept (below_drew1 _))).mono ?_; rintro e w1 ⟨rfl, hbx⟩; replace e0 := cell_below e0 (below_trans (by first | exact Below.refl _ _ | exact below_drew1 _ | exact below_drewN _ _ | exact bl_drew (below_alloc _)) hbx); replace e1 := cell_below e1 (below_trans (by first | exact Below.refl _ _ | exact below_drew1 _ | exact below_drewN _ _ | exact bl_drew (below_alloc _)) hbx); replace e2 := cell_below e2 (below_trans (by first | exact Below.refl _ _ | exact below_drew1 _ | exact below_drewN _ _ | exact bl_drew (below_alloc _)) hbx); replace e3 := cell_below e3 (below_trans (by first | exact Below.refl _ _ | exact below_drew1 _ | exact below_drewN _ _ | exact bl_drew (below_alloc _)) hbx); replace e4 := cell_below e4 (below_trans (by first | exact Below.refl _ _ | exact below_drew1 _ | exact below_drewN _ _ | exact bl_drew (below_alloc _)) hbx); replace HB := hid (below_trans HB.out (below_trans (by first | exact Below.refl _ _ | exact below_drew1 _ | exact below_drewN _ _ | exact bl_drew (below_alloc _)) hbx)); clear hbx) | (go_at_call 87; refine (HF.out _).mono ?_; rintro e w2 ⟨rfl, rfl⟩))
  all_goals
    go_wp2
    go_ret
    exact ⟨rfl, HB.out⟩
theorem rdAdd (w : World) (bs : List BV) (ba : Option Addr) (bc : Nat) (caps : Array Value) (a : Int) (hf : 1 ≤ a ∧ a ≤ 536870911) : Calls Try.prog 68 #[.slice ba bs.length bc, .agg #[.int .i64 8, .int .i64 a, .int .i64 0, .int .i64 0, .int .i64 0], .func (.func 67) #[] caps] w fun e w' => e = .returned (.bool true) ∧ Below w.heap.size w w' := by
  have HS : Hid (∀ W zb, Blk W zb 3 (ints [a]) → Calls Try.prog 84 #[.int .i64 8, .slice (some ⟨zb, 0, none⟩) 1 1] W fun e w' => e = .returned (.agg #[.int .i64 8, .int .i64 a, .int .i64 0, .int .i64 0, .int .i64 0]) ∧ Below W.heap.size W w') := hid fun W zb hB => stepL W 8 [a] (by simp) zb hB
  have heq : ∀ W, (Op.equalIn 10000 42 (.agg #[.int .i64 8, .int .i64 a, .int .i64 0, .int .i64 0, .int .i64 0]) (.agg #[.int .i64 8, .int .i64 a, .int .i64 0, .int .i64 0, .int .i64 0])).run Try.prog W = .ok true W := fun W => by
    have := eqIN ⟨8, a, 0, 0, 0⟩ ⟨8, a, 0, 0, 0⟩ W
    rw [(inB_iff _ _).2 rfl] at this
    exact this
  have hgd := gdIN
  have HF := hid (isFieldT · a hf)
  go_enter Try.func68, Try.ntmps68
  go_wp2_with fail
  have Bs : Blk (w.alloc (.cells #[.int .i64 8, .int .i64 a, .int .i64 0, .int .i64 0, .int .i64 0] 42)) w.heap.size 42 #[.int .i64 8, .int .i64 a, .int .i64 0, .int .i64 0, .int .i64 0] := Blk.new _ _ _
  have HB : Hid (Below w.heap.size w (w.alloc (.cells #[.int .i64 8, .int .i64 a, .int .i64 0, .int .i64 0, .int .i64 0] 42))) := hid (by exact blBy)
  generalize w.alloc (.cells #[.int .i64 8, .int .i64 a, .int .i64 0, .int .i64 0, .int .i64 0] 42) = V at *
  have e0 := Bs.cell 0 _ rfl
  have e1 := Bs.cell 1 _ rfl
  have e2 := Bs.cell 2 _ rfl
  have e3 := Bs.cell 3 _ rfl
  have e4 := Bs.cell 4 _ rfl
  simp only [List.getElem_toArray, List.getElem_cons_succ, List.getElem_cons_zero] at e0 e1 e2 e3 e4
  clear Bs
  go_region_held3 (fun W => W.cell? ⟨w.heap.size, 0, none⟩ = some (.int .i64 8) ∧ W.cell? ⟨w.heap.size, 1, none⟩ = some (.int .i64 a) ∧ W.cell? ⟨w.heap.size, 2, none⟩ = some (.int .i64 0) ∧ W.cell? ⟨w.heap.size, 3, none⟩ = some (.int .i64 0) ∧ W.cell? ⟨w.heap.size, 4, none⟩ = some (.int .i64 0)) (first | exact ⟨e0, e1, e2, e3, e4⟩ | exact ⟨cell_below e0 (bl_drew (below_alloc _)), cell_below e1 (bl_drew (below_alloc _)), cell_below e2 (bl_drew (below_alloc _)), cell_below e3 (bl_drew (below_alloc _)), cell_below e4 (bl_drew (below_alloc _))⟩) (first | (go_at_call 84; refine (HS.out _ _ ((Blk.new _ _ _).kept (below_drew1 _))).mono ?_; rintro e w1 ⟨rfl, hbx⟩; replace e0 := cell_below e0 (below_trans (by first | exact Below.refl _ _ | exact below_drew1 _ | exact below_drewN _ _ | exact bl_drew (below_alloc _)) hbx); replace e1 := cell_below e1 (below_trans (by first | exact Below.refl _ _ | exact below_drew1 _ | exact below_drewN _ _ | exact bl_drew (below_alloc _)) hbx); replace e2 := cell_below e2 (below_trans (by first | exact Below.refl _ _ | exact below_drew1 _ | exact below_drewN _ _ | exact bl_drew (below_alloc _)) hbx); replace e3 := cell_below e3 (below_trans (by first | exact Below.refl _ _ | exact below_drew1 _ | exact below_drewN _ _ | exact bl_drew (below_alloc _)) hbx); replace e4 := cell_below e4 (below_trans (by first | exact Below.refl _ _ | exact below_drew1 _ | exact below_drewN _ _ | exact bl_drew (below_alloc _)) hbx); replace HB := hid (below_trans HB.out (below_trans (by first | exact Below.refl _ _ | exact below_drew1 _ | exact below_drewN _ _ | exact bl_drew (below_alloc _)) hbx)); clear hbx) | (go_at_call 87; refine (HF.out _).mono ?_; rintro e w2 ⟨rfl, rfl⟩))
  all_goals
    go_wp2
    go_ret
    exact ⟨rfl, HB.out⟩
theorem rdClear (w : World) (bs : List BV) (ba : Option Addr) (bc : Nat) (caps : Array Value) (a : Int) (hf : 1 ≤ a ∧ a ≤ 536870911) : Calls Try.prog 68 #[.slice ba bs.length bc, .agg #[.int .i64 9, .int .i64 a, .int .i64 0, .int .i64 0, .int .i64 0], .func (.func 67) #[] caps] w fun e w' => e = .returned (.bool true) ∧ Below w.heap.size w w' := by
  have HS : Hid (∀ W zb, Blk W zb 3 (ints [a]) → Calls Try.prog 84 #[.int .i64 9, .slice (some ⟨zb, 0, none⟩) 1 1] W fun e w' => e = .returned (.agg #[.int .i64 9, .int .i64 a, .int .i64 0, .int .i64 0, .int .i64 0]) ∧ Below W.heap.size W w') := hid fun W zb hB => stepL W 9 [a] (by simp) zb hB
  have heq : ∀ W, (Op.equalIn 10000 42 (.agg #[.int .i64 9, .int .i64 a, .int .i64 0, .int .i64 0, .int .i64 0]) (.agg #[.int .i64 9, .int .i64 a, .int .i64 0, .int .i64 0, .int .i64 0])).run Try.prog W = .ok true W := fun W => by
    have := eqIN ⟨9, a, 0, 0, 0⟩ ⟨9, a, 0, 0, 0⟩ W
    rw [(inB_iff _ _).2 rfl] at this
    exact this
  have hgd := gdIN
  have HF := hid (isFieldT · a hf)
  go_enter Try.func68, Try.ntmps68
  go_wp2_with fail
  have Bs : Blk (w.alloc (.cells #[.int .i64 9, .int .i64 a, .int .i64 0, .int .i64 0, .int .i64 0] 42)) w.heap.size 42 #[.int .i64 9, .int .i64 a, .int .i64 0, .int .i64 0, .int .i64 0] := Blk.new _ _ _
  have HB : Hid (Below w.heap.size w (w.alloc (.cells #[.int .i64 9, .int .i64 a, .int .i64 0, .int .i64 0, .int .i64 0] 42))) := hid (by exact blBy)
  generalize w.alloc (.cells #[.int .i64 9, .int .i64 a, .int .i64 0, .int .i64 0, .int .i64 0] 42) = V at *
  have e0 := Bs.cell 0 _ rfl
  have e1 := Bs.cell 1 _ rfl
  have e2 := Bs.cell 2 _ rfl
  have e3 := Bs.cell 3 _ rfl
  have e4 := Bs.cell 4 _ rfl
  simp only [List.getElem_toArray, List.getElem_cons_succ, List.getElem_cons_zero] at e0 e1 e2 e3 e4
  clear Bs
  go_region_held3 (fun W => W.cell? ⟨w.heap.size, 0, none⟩ = some (.int .i64 9) ∧ W.cell? ⟨w.heap.size, 1, none⟩ = some (.int .i64 a) ∧ W.cell? ⟨w.heap.size, 2, none⟩ = some (.int .i64 0) ∧ W.cell? ⟨w.heap.size, 3, none⟩ = some (.int .i64 0) ∧ W.cell? ⟨w.heap.size, 4, none⟩ = some (.int .i64 0)) (first | exact ⟨e0, e1, e2, e3, e4⟩ | exact ⟨cell_below e0 (bl_drew (below_alloc _)), cell_below e1 (bl_drew (below_alloc _)), cell_below e2 (bl_drew (below_alloc _)), cell_below e3 (bl_drew (below_alloc _)), cell_below e4 (bl_drew (below_alloc _))⟩) (first | (go_at_call 84; refine (HS.out _ _ ((Blk.new _ _ _).kept (below_drew1 _))).mono ?_; rintro e w1 ⟨rfl, hbx⟩; replace e0 := cell_below e0 (below_trans (by first | exact Below.refl _ _ | exact below_drew1 _ | exact below_drewN _ _ | exact bl_drew (below_alloc _)) hbx); replace e1 := cell_below e1 (below_trans (by first | exact Below.refl _ _ | exact below_drew1 _ | exact below_drewN _ _ | exact bl_drew (below_alloc _)) hbx); replace e2 := cell_below e2 (below_trans (by first | exact Below.refl _ _ | exact below_drew1 _ | exact below_drewN _ _ | exact bl_drew (below_alloc _)) hbx); replace e3 := cell_below e3 (below_trans (by first | exact Below.refl _ _ | exact below_drew1 _ | exact below_drewN _ _ | exact bl_drew (below_alloc _)) hbx); replace e4 := cell_below e4 (below_trans (by first | exact Below.refl _ _ | exact below_drew1 _ | exact below_drewN _ _ | exact bl_drew (below_alloc _)) hbx); replace HB := hid (below_trans HB.out (below_trans (by first | exact Below.refl _ _ | exact below_drew1 _ | exact below_drewN _ _ | exact bl_drew (below_alloc _)) hbx)); clear hbx) | (go_at_call 87; refine (HF.out _).mono ?_; rintro e w2 ⟨rfl, rfl⟩))
  all_goals
    go_wp2
    go_ret
    exact ⟨rfl, HB.out⟩
theorem rdMsg (w : World) (bs : List BV) (ba : Option Addr) (bc : Nat) (caps : Array Value) (a c : Int) (k : Nat) (hp : PgR w (.slice ba bs.length bc) bs) (hl : k < bs.length) (hf : 1 ≤ a ∧ a ≤ 536870911) (h1 : 0 < bs[k].k.dec.length) (hz : bs[k].k.dec.length ≤ 100000 ∧ bs[k].k.enc.length ≤ 100000) (hc : c = 0 ∨ c = 1 ∨ c = 2) : Calls Try.prog 68 #[.slice ba bs.length bc, .agg #[.int .i64 10, .int .i64 a, .int .i64 (k : Int), .int .i64 c, .int .i64 0], .func (.func 67) #[] caps] w fun e w' => e = .returned (.bool true) ∧ Below w.heap.size w w' := by
  have HS : Hid (∀ W zb, Blk W zb 3 (ints [a, (k : Int), c]) → Calls Try.prog 84 #[.int .i64 10, .slice (some ⟨zb, 0, none⟩) 3 3] W fun e w' => e = .returned (.agg #[.int .i64 10, .int .i64 a, .int .i64 (k : Int), .int .i64 c, .int .i64 0]) ∧ Below W.heap.size W w') := hid fun W zb hB => stepL W 10 [a, (k : Int), c] (by simp) zb hB
  have heq : ∀ W, (Op.equalIn 10000 42 (.agg #[.int .i64 10, .int .i64 a, .int .i64 (k : Int), .int .i64 c, .int .i64 0]) (.agg #[.int .i64 10, .int .i64 a, .int .i64 (k : Int), .int .i64 c, .int .i64 0])).run Try.prog W = .ok true W := fun W => by
    have := eqIN ⟨10, a, (k : Int), c, 0⟩ ⟨10, a, (k : Int), c, 0⟩ W
    rw [(inB_iff _ _).2 rfl] at this
    exact this
  have hgd := gdIN
  have HF := hid (isFieldT · a hf)
  have HM := hid (fun W hW => isMessageT W bs ba bc (hp.kept hW) k hl h1 hz)
  have m1 : (0 ≤ c) = True := eq_true (by omega)
  have m2 : (c ≤ 2) = True := eq_true (by omega)
  clear hc
  go_enter Try.func68, Try.ntmps68
  go_wp2_with fail
  have Bs : Blk (w.alloc (.cells #[.int .i64 10, .int .i64 a, .int .i64 (k : Int), .int .i64 c, .int .i64 0] 42)) w.heap.size 42 #[.int .i64 10, .int .i64 a, .int .i64 (k : Int), .int .i64 c, .int .i64 0] := Blk.new _ _ _
  have HB : Hid (Below w.heap.size w (w.alloc (.cells #[.int .i64 10, .int .i64 a, .int .i64 (k : Int), .int .i64 c, .int .i64 0] 42))) := hid (by exact blBy)
  generalize w.alloc (.cells #[.int .i64 10, .int .i64 a, .int .i64 (k : Int), .int .i64 c, .int .i64 0] 42) = V at *
  have e0 := Bs.cell 0 _ rfl
  have e1 := Bs.cell 1 _ rfl
  have e2 := Bs.cell 2 _ rfl
  have e3 := Bs.cell 3 _ rfl
  have e4 := Bs.cell 4 _ rfl
  simp only [List.getElem_toArray, List.getElem_cons_succ, List.getElem_cons_zero] at e0 e1 e2 e3 e4
  clear Bs
  go_region_held3 (fun W => W.cell? ⟨w.heap.size, 0, none⟩ = some (.int .i64 10) ∧ W.cell? ⟨w.heap.size, 1, none⟩ = some (.int .i64 a) ∧ W.cell? ⟨w.heap.size, 2, none⟩ = some (.int .i64 (k : Int)) ∧ W.cell? ⟨w.heap.size, 3, none⟩ = some (.int .i64 c) ∧ W.cell? ⟨w.heap.size, 4, none⟩ = some (.int .i64 0)) (first | exact ⟨e0, e1, e2, e3, e4⟩ | exact ⟨cell_below e0 (bl_drew (below_alloc _)), cell_below e1 (bl_drew (below_alloc _)), cell_below e2 (bl_drew (below_alloc _)), cell_below e3 (bl_drew (below_alloc _)), cell_below e4 (bl_drew (below_alloc _))⟩) (first | (go_at_call 84; refine (HS.out _ _ ((Blk.new _ _ _).kept (below_drew1 _))).mono ?_; rintro e w1 ⟨rfl, hbx⟩; replace e0 := cell_below e0 (below_trans (by first | exact Below.refl _ _ | exact below_drew1 _ | exact below_drewN _ _ | exact bl_drew (below_alloc _)) hbx); replace e1 := cell_below e1 (below_trans (by first | exact Below.refl _ _ | exact below_drew1 _ | exact below_drewN _ _ | exact bl_drew (below_alloc _)) hbx); replace e2 := cell_below e2 (below_trans (by first | exact Below.refl _ _ | exact below_drew1 _ | exact below_drewN _ _ | exact bl_drew (below_alloc _)) hbx); replace e3 := cell_below e3 (below_trans (by first | exact Below.refl _ _ | exact below_drew1 _ | exact below_drewN _ _ | exact bl_drew (below_alloc _)) hbx); replace e4 := cell_below e4 (below_trans (by first | exact Below.refl _ _ | exact below_drew1 _ | exact below_drewN _ _ | exact bl_drew (below_alloc _)) hbx); replace HB := hid (below_trans HB.out (below_trans (by first | exact Below.refl _ _ | exact below_drew1 _ | exact below_drewN _ _ | exact bl_drew (below_alloc _)) hbx)); clear hbx) | (go_at_call 87; refine (HF.out _).mono ?_; rintro e w2 ⟨rfl, rfl⟩) | (go_at_call 88; refine (HM.out _ (below_trans HB.out (by first | exact Below.refl _ _ | exact below_drew1 _ | exact below_drewN _ _))).mono ?_; rintro e w2 ⟨rfl, hbx⟩; replace e0 := cell_below e0 (below_trans (by first | exact Below.refl _ _ | exact below_drew1 _ | exact below_drewN _ _ | exact bl_drew (below_alloc _)) hbx); replace e1 := cell_below e1 (below_trans (by first | exact Below.refl _ _ | exact below_drew1 _ | exact below_drewN _ _ | exact bl_drew (below_alloc _)) hbx); replace e2 := cell_below e2 (below_trans (by first | exact Below.refl _ _ | exact below_drew1 _ | exact below_drewN _ _ | exact bl_drew (below_alloc _)) hbx); replace e3 := cell_below e3 (below_trans (by first | exact Below.refl _ _ | exact below_drew1 _ | exact below_drewN _ _ | exact bl_drew (below_alloc _)) hbx); replace e4 := cell_below e4 (below_trans (by first | exact Below.refl _ _ | exact below_drew1 _ | exact below_drewN _ _ | exact bl_drew (below_alloc _)) hbx); replace HB := hid (below_trans HB.out (below_trans (by first | exact Below.refl _ _ | exact below_drew1 _ | exact below_drewN _ _ | exact bl_drew (below_alloc _)) hbx)); clear hbx))
  all_goals
    go_wp2
    go_ret
    exact ⟨rfl, HB.out⟩
theorem rdRow (w : World) (bs : List BV) (ba : Option Addr) (bc : Nat) (caps : Array Value) (a b c : Int) (hp : PgR w (.slice ba bs.length bc) bs) (hf : 1 ≤ a ∧ a ≤ 536870911) (hnu : knum b = true) (hrs : (b = 16 ∧ ∃ k : Nat, c = (k : Int) + 1 ∧ ∃ h : k < bs.length, bs[k].k.dec.length = 0 ∧ bs[k].k.enc.length = 0) ∨ (b ≠ 16 ∧ c = 0)) (h63 : c ≤ 1000) : Calls Try.prog 68 #[.slice ba bs.length bc, .agg #[.int .i64 11, .int .i64 a, .int .i64 b, .int .i64 c, .int .i64 0], .func (.func 67) #[] caps] w fun e w' => e = .returned (.bool true) ∧ Below w.heap.size w w' := by
  have HS : Hid (∀ W zb, Blk W zb 3 (ints [a, b, c]) → Calls Try.prog 84 #[.int .i64 11, .slice (some ⟨zb, 0, none⟩) 3 3] W fun e w' => e = .returned (.agg #[.int .i64 11, .int .i64 a, .int .i64 b, .int .i64 c, .int .i64 0]) ∧ Below W.heap.size W w') := hid fun W zb hB => stepL W 11 [a, b, c] (by simp) zb hB
  have heq : ∀ W, (Op.equalIn 10000 42 (.agg #[.int .i64 11, .int .i64 a, .int .i64 b, .int .i64 c, .int .i64 0]) (.agg #[.int .i64 11, .int .i64 a, .int .i64 b, .int .i64 c, .int .i64 0])).run Try.prog W = .ok true W := fun W => by
    have := eqIN ⟨11, a, b, c, 0⟩ ⟨11, a, b, c, 0⟩ W
    rw [(inB_iff _ _).2 rfl] at this
    exact this
  have hgd := gdIN
  have HF := hid (isFieldT · a hf)
  have HN : Hid (∀ W, Calls Try.prog 89 #[.int .i64 b] W fun e w' => e = .returned (.bool true) ∧ W = w') := hid fun W => by have := numericW b W; rw [hnu] at this; exact this
  have HR := hid (fun W hW => areRowSymbolsT W bs ba bc (hp.kept hW) b c hrs h63)
  clear hrs
  go_enter Try.func68, Try.ntmps68
  go_wp2_with fail
  have Bs : Blk (w.alloc (.cells #[.int .i64 11, .int .i64 a, .int .i64 b, .int .i64 c, .int .i64 0] 42)) w.heap.size 42 #[.int .i64 11, .int .i64 a, .int .i64 b, .int .i64 c, .int .i64 0] := Blk.new _ _ _
  have HB : Hid (Below w.heap.size w (w.alloc (.cells #[.int .i64 11, .int .i64 a, .int .i64 b, .int .i64 c, .int .i64 0] 42))) := hid (by exact blBy)
  generalize w.alloc (.cells #[.int .i64 11, .int .i64 a, .int .i64 b, .int .i64 c, .int .i64 0] 42) = V at *
  have e0 := Bs.cell 0 _ rfl
  have e1 := Bs.cell 1 _ rfl
  have e2 := Bs.cell 2 _ rfl
  have e3 := Bs.cell 3 _ rfl
  have e4 := Bs.cell 4 _ rfl
  simp only [List.getElem_toArray, List.getElem_cons_succ, List.getElem_cons_zero] at e0 e1 e2 e3 e4
  clear Bs
  go_region_held3 (fun W => W.cell? ⟨w.heap.size, 0, none⟩ = some (.int .i64 11) ∧ W.cell? ⟨w.heap.size, 1, none⟩ = some (.int .i64 a) ∧ W.cell? ⟨w.heap.size, 2, none⟩ = some (.int .i64 b) ∧ W.cell? ⟨w.heap.size, 3, none⟩ = some (.int .i64 c) ∧ W.cell? ⟨w.heap.size, 4, none⟩ = some (.int .i64 0)) (first | exact ⟨e0, e1, e2, e3, e4⟩ | exact ⟨cell_below e0 (bl_drew (below_alloc _)), cell_below e1 (bl_drew (below_alloc _)), cell_below e2 (bl_drew (below_alloc _)), cell_below e3 (bl_drew (below_alloc _)), cell_below e4 (bl_drew (below_alloc _))⟩) (first | (go_at_call 84; refine (HS.out _ _ ((Blk.new _ _ _).kept (below_drew1 _))).mono ?_; rintro e w1 ⟨rfl, hbx⟩; replace e0 := cell_below e0 (below_trans (by first | exact Below.refl _ _ | exact below_drew1 _ | exact below_drewN _ _ | exact bl_drew (below_alloc _)) hbx); replace e1 := cell_below e1 (below_trans (by first | exact Below.refl _ _ | exact below_drew1 _ | exact below_drewN _ _ | exact bl_drew (below_alloc _)) hbx); replace e2 := cell_below e2 (below_trans (by first | exact Below.refl _ _ | exact below_drew1 _ | exact below_drewN _ _ | exact bl_drew (below_alloc _)) hbx); replace e3 := cell_below e3 (below_trans (by first | exact Below.refl _ _ | exact below_drew1 _ | exact below_drewN _ _ | exact bl_drew (below_alloc _)) hbx); replace e4 := cell_below e4 (below_trans (by first | exact Below.refl _ _ | exact below_drew1 _ | exact below_drewN _ _ | exact bl_drew (below_alloc _)) hbx); replace HB := hid (below_trans HB.out (below_trans (by first | exact Below.refl _ _ | exact below_drew1 _ | exact below_drewN _ _ | exact bl_drew (below_alloc _)) hbx)); clear hbx) | (go_at_call 87; refine (HF.out _).mono ?_; rintro e w2 ⟨rfl, rfl⟩) | (go_at_call 89; refine (HN.out _).mono ?_; rintro e w2 ⟨rfl, rfl⟩) | (go_at_call 90; refine (HR.out _ (below_trans HB.out (by first | exact Below.refl _ _ | exact below_drew1 _ | exact below_drewN _ _))).mono ?_; rintro e w2 ⟨rfl, hbx⟩; replace e0 := cell_below e0 (below_trans (by first | exact Below.refl _ _ | exact below_drew1 _ | exact below_drewN _ _ | exact bl_drew (below_alloc _)) hbx); replace e1 := cell_below e1 (below_trans (by first | exact Below.refl _ _ | exact below_drew1 _ | exact below_drewN _ _ | exact bl_drew (below_alloc _)) hbx); replace e2 := cell_below e2 (below_trans (by first | exact Below.refl _ _ | exact below_drew1 _ | exact below_drewN _ _ | exact bl_drew (below_alloc _)) hbx); replace e3 := cell_below e3 (below_trans (by first | exact Below.refl _ _ | exact below_drew1 _ | exact below_drewN _ _ | exact bl_drew (below_alloc _)) hbx); replace e4 := cell_below e4 (below_trans (by first | exact Below.refl _ _ | exact below_drew1 _ | exact below_drewN _ _ | exact bl_drew (below_alloc _)) hbx); replace HB := hid (below_trans HB.out (below_trans (by first | exact Below.refl _ _ | exact below_drew1 _ | exact below_drewN _ _ | exact bl_drew (below_alloc _)) hbx)); clear hbx))
  all_goals
    go_wp2
    go_ret
    exact ⟨rfl, HB.out⟩
theorem rdPair (w : World) (bs : List BV) (ba : Option Addr) (bc : Nat) (caps : Array Value) (a b c d : Int) (hp : PgR w (.slice ba bs.length bc) bs) (hf : 1 ≤ a ∧ a ≤ 536870911) (hky : kkey b = true) (hok : OfKind bs c d) : Calls Try.prog 68 #[.slice ba bs.length bc, .agg #[.int .i64 12, .int .i64 a, .int .i64 b, .int .i64 c, .int .i64 d], .func (.func 67) #[] caps] w fun e w' => e = .returned (.bool true) ∧ Below w.heap.size w w' := by
  have HF := hid (isFieldT · a hf)
  have HK : Hid (∀ W, Calls Try.prog 91 #[.int .i64 b] W fun e w' => e = .returned (.bool true) ∧ W = w') := hid fun W => by have := isKeyW b W; rw [hky] at this; exact this
  have HO := hid (fun W hW => isOfKindT W bs ba bc (hp.kept hW) c d hok)
  clear hok
  go_enter Try.func68, Try.ntmps68
  go_wp2_with fail
  have Bs : Blk (w.alloc (.cells #[.int .i64 12, .int .i64 a, .int .i64 b, .int .i64 c, .int .i64 d] 42)) w.heap.size 42 #[.int .i64 12, .int .i64 a, .int .i64 b, .int .i64 c, .int .i64 d] := Blk.new _ _ _
  have HB : Hid (Below w.heap.size w (w.alloc (.cells #[.int .i64 12, .int .i64 a, .int .i64 b, .int .i64 c, .int .i64 d] 42))) := hid (by exact blBy)
  generalize w.alloc (.cells #[.int .i64 12, .int .i64 a, .int .i64 b, .int .i64 c, .int .i64 d] 42) = V at *
  have e0 := Bs.cell 0 _ rfl
  have e1 := Bs.cell 1 _ rfl
  have e2 := Bs.cell 2 _ rfl
  have e3 := Bs.cell 3 _ rfl
  have e4 := Bs.cell 4 _ rfl
  simp only [List.getElem_toArray, List.getElem_cons_succ, List.getElem_cons_zero] at e0 e1 e2 e3 e4
  clear Bs
  go_wp2_with (first | (go_at_call 87; refine (HF.out _).mono ?_; rintro e w2 ⟨rfl, rfl⟩) | (go_at_call 91; refine (HK.out _).mono ?_; rintro e w2 ⟨rfl, rfl⟩) | (go_at_call 92; refine (HO.out _ (below_trans HB.out (by first | exact Below.refl _ _ | exact below_drew1 _ | exact below_drewN _ _))).mono ?_; rintro e w2 ⟨rfl, hbx⟩; replace e0 := cell_below e0 (below_trans (by first | exact Below.refl _ _ | exact below_drew1 _ | exact below_drewN _ _ | exact bl_drew (below_alloc _)) hbx); replace e1 := cell_below e1 (below_trans (by first | exact Below.refl _ _ | exact below_drew1 _ | exact below_drewN _ _ | exact bl_drew (below_alloc _)) hbx); replace e2 := cell_below e2 (below_trans (by first | exact Below.refl _ _ | exact below_drew1 _ | exact below_drewN _ _ | exact bl_drew (below_alloc _)) hbx); replace e3 := cell_below e3 (below_trans (by first | exact Below.refl _ _ | exact below_drew1 _ | exact below_drewN _ _ | exact bl_drew (below_alloc _)) hbx); replace e4 := cell_below e4 (below_trans (by first | exact Below.refl _ _ | exact below_drew1 _ | exact below_drewN _ _ | exact bl_drew (below_alloc _)) hbx); replace HB := hid (below_trans HB.out (below_trans (by first | exact Below.refl _ _ | exact below_drew1 _ | exact below_drewN _ _ | exact bl_drew (below_alloc _)) hbx)); clear hbx))
  all_goals
    go_wp2
    go_ret
    exact ⟨rfl, HB.out⟩
end Go.Proofs.Ytliohglpbmpbhaa
