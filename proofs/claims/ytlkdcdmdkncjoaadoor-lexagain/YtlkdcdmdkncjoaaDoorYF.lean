/-
  The reader keeps a word.
-/
import Derived.Test.YtlkdcdmdkncjoaaDoorYE
namespace Go.Proofs.YtlkdcdmdkncjoaaDoor
open Go.RowKit
set_option maxRecDepth 1000000
set_option maxHeartbeats 4000000
set_option linter.unusedVariables false

section
variable (p : Nat) (xs : List Int) (fr : Nat) (bl bc : Int) (i : Nat) (kept : Value) (w : World)
theorem keepW (base : Nat) (ws : List (Mw × Value)) (kind n : Int) (b : List Int) (a : Option Addr) (c : Nat) (hf : fr ≤ i) (hi : i ≤ xs.length) (hl : xs.length ≤ 65536) (h : Rd w p xs fr bl bc i kept)
    (hk : Kp w base p 39 kept ws) (hbase : base ≤ w.heap.size) (hn : ws.length ≤ 70000) (hr : Reads w a b.length c b) (ho : Off p kept b.length a) :
    Calls Tryd.prog 24 #[.pointer (some ⟨p, 0, none⟩), .agg #[.int .i64 kind, .string ⟨#[]⟩, .int .u64 n, .slice a b.length c, .int .i64 0, .int .i64 0]] w fun e w' => e = .returned (.tuple #[]) ∧
      ∃ kept', Rd w' p xs fr bl bc i kept' ∧ Kp w' base p 39 kept' (ws ++ [(⟨kind, cut xs fr i, n, b, bl, bc⟩, .slice a b.length c)]) ∧ Keep (fun k => k ≠ p ∧ kept.ownBlock ≠ some k) w w' := by
  have HSE := hid (fun W => seenW p xs fr bl bc i kept W hf hi hl)
  have HCL := hid (fun W => cloneW (strOfNums (cut xs fr i)) W (by rw [strOfNums_size, cut_length _ _ _ hi]; omega))
  have HR := hid h
  have HK := hid hk
  have HBS := hid hbase
  have HN := hid hn
  have HRB := hid hr
  have HO := hid ho
  generalize hS : cut xs fr i = S at *
  clear h hk hbase hn hr ho hf hi hl
  go_enter Tryd.func24, Tryd.ntmps24
  go_wp2_with fail
  refine (HSE.out _ (HR.out.kept (below_alloc _))).mono ?_
  rintro e w1 ⟨rfl, hb1⟩
  go_wp2_with fail
  refine (HCL.out _).mono ?_
  rintro e w2 ⟨rfl, hb2⟩
  have hbb := below_trans hb1 hb2
  have HQ := hid ((Blk.new w 39 #[.int .i64 kind, .string ⟨#[]⟩, .int .u64 n, .slice a b.length c, .int .i64 0, .int .i64 0]).kept hbb)
  have HB := hid (below_trans (below_alloc _) hbb)
  clear hb1 hb2 hbb
  have hq : ∀ o, w2.frozen? ⟨w.heap.size, o, none⟩ = false := fun o => HQ.out.frozen o
  have q0 : w2.cell? ⟨w.heap.size, 0, none⟩ = some (.int .i64 kind) := HQ.out.cell 0 _ rfl
  have q1 : w2.cell? ⟨w.heap.size, 1, none⟩ = some (.string ⟨#[]⟩) := HQ.out.cell 1 _ rfl
  have q2 : w2.cell? ⟨w.heap.size, 2, none⟩ = some (.int .u64 n) := HQ.out.cell 2 _ rfl
  have q3 : w2.cell? ⟨w.heap.size, 3, none⟩ = some (.slice a b.length c) := HQ.out.cell 3 _ rfl
  have q4 : w2.cell? ⟨w.heap.size, 4, none⟩ = some (.int .i64 0) := HQ.out.cell 4 _ rfl
  have q5 : w2.cell? ⟨w.heap.size, 5, none⟩ = some (.int .i64 0) := HQ.out.cell 5 _ rfl
  obtain ⟨c0, c1, c2, c3, c4, c5, c6, c7⟩ := (HR.out.kept HB.out).cells
  have f7 := (HR.out.kept HB.out).blk.frozen 7
  have hpq : p < w.heap.size := HR.out.blk.lt
  go_wp2
  go_region
  go_wp2
  obtain ⟨w3, hw3⟩ : ∃ w3, (((w2.setCell ⟨w.heap.size, 1, none⟩ (.string (strOfNums S))).setCell ⟨w.heap.size, 4, none⟩ (.int .i64 bl)).setCell ⟨w.heap.size, 5, none⟩ (.int .i64 bc)).drew = w3 := ⟨_, rfl⟩
  have hpq2 : p ≠ w.heap.size := by omega
  have HQ3 : Hid (Blk w3 w.heap.size 39 #[.int .i64 kind, .string (strOfNums S), .int .u64 n, .slice a b.length c, .int .i64 bl, .int .i64 bc]) := hid (by
    rw [← hw3]
    exact Blk.kept (Blk.is (((HQ.out.set 1 _).set 4 _).set 5 _) (by simp)) (below_drew1 _))
  have HR3 : Hid (Rd w3 p xs fr bl bc i kept) := hid (by
    rw [← hw3]
    exact ⟨Blk.kept ((((HR.out.kept HB.out).blk.other (by simpa using hpq2) _).other (by simpa using hpq2) _).other (by simpa using hpq2) _) (below_drew1 _)⟩)
  have HB3 : Hid (Below w.heap.size w w3) := hid (by
    rw [← hw3]
    exact (((HB.out.setCell (by simp) _).setCell (by simp) _).setCell (by simp) _).drew)
  rw [hw3]
  clear hw3 q0 q1 q2 q3 q4 q5 c0 c1 c2 c3 c4 c5 c6 c7 f7 hq HQ HB
  have hsz3 := HB3.out.size
  obtain ⟨l', w4, hrun, hK4, hG4⟩ := append_word 39 22 Tryd.underlying22 Tryd.info39 base p kept ws w3.drew ⟨kind, S, n, b, bl, bc⟩ a c (HK.out.kept (below_trans HB3.out (below_drew1 _))) (by have := HBS.out; simp; omega) HN.out (by simp; omega) (reads_kept HRB.out (below_trans HB3.out (below_drew1 _))) HO.out
  obtain ⟨la, lc, hl'⟩ := own_shape hK4.row
  obtain ⟨ln, hln⟩ : ∃ ln, (ws ++ [((⟨kind, S, n, b, bl, bc⟩ : Mw), Value.slice a b.length c)]).length = ln := ⟨_, rfl⟩
  rw [hln] at hl'
  clear hln
  subst hl'
  have hb4 : Keep (fun k => k ≠ p ∧ kept.ownBlock ≠ some k) w w4 := ((Keep.ofBelow HB3.out).trans (Keep.ofBelow (below_drew1 _))).trans (Keep.ofGrow hG4 (fun k hk => hk.2))
  have hR4 : Rd w4 p xs fr bl bc i kept := ⟨(HR3.out.blk.kept (below_drew1 _)).keep (Keep.ofGrow (f := fun k => kept.ownBlock ≠ some k) hG4 (fun k hk => hk)) HK.out.np⟩
  simp only [World.size_drew] at hrun
  have HRUN := hid hrun
  have HK4 := hid hK4
  have HR4 := hid hR4
  have HB4 := hid hb4
  clear hrun hK4 hR4 hb4 hG4
  have q0 : w3.cell? ⟨w.heap.size, 0, none⟩ = some (.int .i64 kind) := HQ3.out.cell 0 _ rfl
  have q1 : w3.cell? ⟨w.heap.size, 1, none⟩ = some (.string (strOfNums S)) := HQ3.out.cell 1 _ rfl
  have q2 : w3.cell? ⟨w.heap.size, 2, none⟩ = some (.int .u64 n) := HQ3.out.cell 2 _ rfl
  have q3 : w3.cell? ⟨w.heap.size, 3, none⟩ = some (.slice a b.length c) := HQ3.out.cell 3 _ rfl
  have q4 : w3.cell? ⟨w.heap.size, 4, none⟩ = some (.int .i64 bl) := HQ3.out.cell 4 _ rfl
  have q5 : w3.cell? ⟨w.heap.size, 5, none⟩ = some (.int .i64 bc) := HQ3.out.cell 5 _ rfl
  obtain ⟨c0, c1, c2, c3, c4, c5, c6, c7⟩ := HR3.out.cells
  have f7 : w4.frozen? ⟨p, 7, none⟩ = false := HR4.out.blk.frozen 7
  have d7 : w4.cell? ⟨p, 7, none⟩ = some kept := HR4.out.cells.2.2.2.2.2.2.2
  have hp3 : p < w3.heap.size := HR3.out.blk.lt
  have hq3 : w.heap.size < w3.heap.size := HQ3.out.lt
  go_region_law (refine step_append_ran rfl _ _ 22 22 rfl rfl _ _ (.slice la ln lc) w4 rfl rfl HRUN.out ?_)
  all_goals go_wp2
  all_goals go_end0
  all_goals exact ⟨rfl, _, ⟨Blk.is (HR4.out.blk.set 7 _) (by simp)⟩, HK4.out.keep (Keep.setCell _ _ _ (by simp)), HB4.out.trans (Keep.setCell _ _ _ (by simp))⟩
end
end Go.Proofs.YtlkdcdmdkncjoaaDoor
