/-
  The law's own looks at a file of one message with one field.
  The known texts, read by the program.
  The law of known texts, walked.
  The variables of Go's library that the rows list: what their list gives; a world that lays them.
-/
import Derived.Test.YtidimdbnnnpplaaDoorCP3
import Derived.Test.YtidimdbnnnpplaaDoorCPNb
import Derived.Test.YtidimdbnnnpplaaDoorCYL
import Derived.Test.YtidimdbnnnpplaaDoorRows
import Derived.Stop.LaidErr
import Derived.Lib.LaidTab
import Derived.Deep.DeepHandedRow
import Derived.Deep.DeepWitnessRowRef
import Derived.LaidLaws
namespace Go.Proofs.YtidimdbnnnpplaaDoor
open Go.RowKit
set_option maxRecDepth 1000000
set_option linter.unusedVariables false
set_option linter.unusedSimpArgs false
set_option maxHeartbeats 8000000

/-- A field's cells. -/
def C15 (W : World) (b o : Nat) (f : MF) : Prop := W.cell? ⟨b, o, none⟩ = some (.string (strOfNums f.name)) ∧ W.cell? ⟨b, o + 1, none⟩ = some (.string (strOfNums f.ty)) ∧ W.cell? ⟨b, o + 2, none⟩ = some (.string (strOfNums f.key)) ∧ W.cell? ⟨b, o + 3, none⟩ = some (.int .u64 f.num) ∧ W.cell? ⟨b, o + 4, none⟩ = some (.int .i64 f.label) ∧ W.cell? ⟨b, o + 5, none⟩ = some (.int .i64 f.packed) ∧ W.cell? ⟨b, o + 6, none⟩ = some (.int .i64 f.oneof) ∧ W.cell? ⟨b, o + 7, none⟩ = some (.int .i64 f.at1.1) ∧ W.cell? ⟨b, o + 8, none⟩ = some (.int .i64 f.at1.2) ∧ W.cell? ⟨b, o + 9, none⟩ = some (.int .i64 f.nat1.1) ∧ W.cell? ⟨b, o + 10, none⟩ = some (.int .i64 f.nat1.2) ∧ W.cell? ⟨b, o + 11, none⟩ = some (.int .i64 f.tat.1) ∧ W.cell? ⟨b, o + 12, none⟩ = some (.int .i64 f.tat.2) ∧ W.cell? ⟨b, o + 13, none⟩ = some (.int .i64 f.mat.1) ∧ W.cell? ⟨b, o + 14, none⟩ = some (.int .i64 f.mat.2)
theorem C15.kept {W W' : World} {b o : Nat} {f : MF} (h : C15 W b o f) (hb : Below W.heap.size W W') : C15 W' b o f := by
  obtain ⟨h0, h1, h2, h3, h4, h5, h6, h7, h8, h9, h10, h11, h12, h13, h14⟩ := h
  exact ⟨cell_below h0 hb, cell_below h1 hb, cell_below h2 hb, cell_below h3 hb, cell_below h4 hb, cell_below h5 hb, cell_below h6 hb, cell_below h7 hb, cell_below h8 hb, cell_below h9 hb, cell_below h10 hb, cell_below h11 hb, cell_below h12 hb, cell_below h13 hb, cell_below h14 hb⟩
theorem rowF {W : World} {Z : Nat → Prop} {b o c : Nat} {f : MF} (h : RowV W Z 15 (some ⟨b, o, none⟩) 1 c ([f].flatMap cF)) : C15 W b o f := by
  rcases h.cells with ⟨h0, _⟩ | ⟨b', o', e, hz, hc⟩
  · exact absurd h0 (by decide)
  · cases e
    exact ⟨hc 0 _ rfl, hc 1 _ rfl, hc 2 _ rfl, hc 3 _ rfl, hc 4 _ rfl, hc 5 _ rfl, hc 6 _ rfl, hc 7 _ rfl, hc 8 _ rfl, hc 9 _ rfl, hc 10 _ rfl, hc 11 _ rfl, hc 12 _ rfl, hc 13 _ rfl, hc 14 _ rfl⟩
theorem declsNil (a1 a2 : Option Addr) (c1 c2 : Nat) (w : World) : Calls Tryd.prog 14 #[.slice a1 0 c1, .slice a2 0 c2] w fun e w' => e = .returned (.bool true) ∧ Below w.heap.size w w' := by
  go_enter Tryd.func14, Tryd.ntmps14
  go_wp2
  refine wp_loop_rounds 1 ?_
  rw [rounds_succ]
  go_wp2
  go_ret
  exact ⟨rfl, by (repeat (first | with_reducible assumption | with_reducible refine bl_set ?_ (by first | (simp; done) | (simp; omega) | omega) _ | with_reducible refine bl_alloc ?_ _ | with_reducible refine bl_drew ?_ | with_reducible refine bl_drewN ?_ _ | with_reducible exact Below.refl _ _))⟩
theorem declOne (f : MF) (en : Bool) (nm : List Int) (al ac : Int) (b1 o1 c1 b2 o2 c2 : Nat) (oa da ra ta oa2 da2 ra2 ta2 : Option Addr) (oc dc rc tc oc2 dc2 rc2 tc2 : Nat) (w : World) (h1 : C15 w b1 o1 f) (h2 : C15 w b2 o2 f) : Calls Tryd.prog 31 #[.agg #[.bool en, .string (strOfNums nm), .int .i64 al, .int .i64 ac, .slice (some ⟨b1, o1, none⟩) 1 c1, .slice oa 0 oc, .slice da 0 dc, .slice ra 0 rc, .slice ta 0 tc], .agg #[.bool en, .string (strOfNums nm), .int .i64 al, .int .i64 ac, .slice (some ⟨b2, o2, none⟩) 1 c2, .slice oa2 0 oc2, .slice da2 0 dc2, .slice ra2 0 rc2, .slice ta2 0 tc2]] w fun e w' => e = .returned (.bool true) ∧ Below w.heap.size w w' := by
  have H1 := hid h1
  have H2 := hid h2
  clear h1 h2
  have hb0 : Hid (Below w.heap.size w w) := hid (Below.refl _ _)
  go_enter Tryd.func31, Tryd.ntmps31
  go_wp2_with fail
  refine (placeYes al ac _).mono ?_
  rintro e w1 ⟨rfl, hb1⟩
  have Ca : Blk w1 (w.heap.size) 41 #[.bool en, .string (strOfNums nm), .int .i64 al, .int .i64 ac, .slice (some ⟨b1, o1, none⟩) 1 c1, .slice oa 0 oc, .slice da 0 dc, .slice ra 0 rc, .slice ta 0 tc] := Blk.kept (((Blk.newAt (by simp)).kept (below_alloc _)).is (by first | rfl | simp)) hb1
  have Cv : Blk w1 (w.heap.size + 1) 64 #[.bool en, .string (strOfNums nm), .int .i64 al, .int .i64 ac, .slice (some ⟨b2, o2, none⟩) 1 c2, .slice oa2 0 oc2, .slice da2 0 dc2, .slice ra2 0 rc2, .slice ta2 0 tc2] := Blk.kept ((Blk.newAt (by simp)).is (by first | rfl | simp)) hb1
  have hs1 := hb1.size
  try simp at hs1
  have Ba := Ca
  clear Ca
  have xa := Ba.cellF
  have ya := Ba.frz
  have za : w.heap.size < w1.heap.size := by omega
  have Bv := Cv
  clear Cv
  have xv := Bv.cellF
  have yv := Bv.frz
  have zv : w.heap.size + 1 < w1.heap.size := by omega
  replace hb1 : Hid (Below w.heap.size w w1) := hid (bl_then (by have := hb0.out; (repeat (first | with_reducible assumption | with_reducible refine bl_set ?_ (by first | (simp; done) | (simp; omega) | omega) _ | with_reducible refine bl_alloc ?_ _ | with_reducible refine bl_drew ?_ | with_reducible refine bl_drewN ?_ _ | with_reducible exact Below.refl _ _))) hb1)
  have G1 := hid (H1.out.kept hb1.out)
  have G2 := hid (H2.out.kept hb1.out)
  obtain ⟨p0, p1, p2, p3, p4, p5, p6, p7, p8, p9, p10, p11, p12, p13, p14⟩ := G1.out
  obtain ⟨q0, q1, q2, q3, q4, q5, q6, q7, q8, q9, q10, q11, q12, q13, q14⟩ := G2.out
  go_wp2
  refine wp_loop_rounds 2 ?_
  rw [rounds_succ]
  go_wp2_with fail
  go_region_held3 (fun W => W.cell? ⟨w.heap.size, 4, none⟩ = some (.slice (some ⟨b1, o1, none⟩) 1 c1) ∧ W.cell? ⟨w.heap.size + 1, 4, none⟩ = some (.slice (some ⟨b2, o2, none⟩) 1 c2) ∧ (W.cell? ⟨b1, o1, none⟩ = some (.string (strOfNums f.name)) ∧ W.cell? ⟨b1, o1 + 1, none⟩ = some (.string (strOfNums f.ty)) ∧ W.cell? ⟨b1, o1 + 2, none⟩ = some (.string (strOfNums f.key)) ∧ W.cell? ⟨b1, o1 + 3, none⟩ = some (.int .u64 f.num) ∧ W.cell? ⟨b1, o1 + 4, none⟩ = some (.int .i64 f.label) ∧ W.cell? ⟨b1, o1 + 5, none⟩ = some (.int .i64 f.packed) ∧ W.cell? ⟨b1, o1 + 6, none⟩ = some (.int .i64 f.oneof) ∧ W.cell? ⟨b1, o1 + 7, none⟩ = some (.int .i64 f.at1.1) ∧ W.cell? ⟨b1, o1 + 8, none⟩ = some (.int .i64 f.at1.2) ∧ W.cell? ⟨b1, o1 + 9, none⟩ = some (.int .i64 f.nat1.1) ∧ W.cell? ⟨b1, o1 + 10, none⟩ = some (.int .i64 f.nat1.2) ∧ W.cell? ⟨b1, o1 + 11, none⟩ = some (.int .i64 f.tat.1) ∧ W.cell? ⟨b1, o1 + 12, none⟩ = some (.int .i64 f.tat.2) ∧ W.cell? ⟨b1, o1 + 13, none⟩ = some (.int .i64 f.mat.1) ∧ W.cell? ⟨b1, o1 + 14, none⟩ = some (.int .i64 f.mat.2)) ∧ (W.cell? ⟨b2, o2, none⟩ = some (.string (strOfNums f.name)) ∧ W.cell? ⟨b2, o2 + 1, none⟩ = some (.string (strOfNums f.ty)) ∧ W.cell? ⟨b2, o2 + 2, none⟩ = some (.string (strOfNums f.key)) ∧ W.cell? ⟨b2, o2 + 3, none⟩ = some (.int .u64 f.num) ∧ W.cell? ⟨b2, o2 + 4, none⟩ = some (.int .i64 f.label) ∧ W.cell? ⟨b2, o2 + 5, none⟩ = some (.int .i64 f.packed) ∧ W.cell? ⟨b2, o2 + 6, none⟩ = some (.int .i64 f.oneof) ∧ W.cell? ⟨b2, o2 + 7, none⟩ = some (.int .i64 f.at1.1) ∧ W.cell? ⟨b2, o2 + 8, none⟩ = some (.int .i64 f.at1.2) ∧ W.cell? ⟨b2, o2 + 9, none⟩ = some (.int .i64 f.nat1.1) ∧ W.cell? ⟨b2, o2 + 10, none⟩ = some (.int .i64 f.nat1.2) ∧ W.cell? ⟨b2, o2 + 11, none⟩ = some (.int .i64 f.tat.1) ∧ W.cell? ⟨b2, o2 + 12, none⟩ = some (.int .i64 f.tat.2) ∧ W.cell? ⟨b2, o2 + 13, none⟩ = some (.int .i64 f.mat.1) ∧ W.cell? ⟨b2, o2 + 14, none⟩ = some (.int .i64 f.mat.2))) (first | exact ⟨Va.out.cellF 4, Vv.out.cellF 4, E1.out, E2.out⟩ | exact ⟨(Ba.kept (below_drew1 _)).cellF 4, (Bv.kept (below_drew1 _)).cellF 4, G1.out.kept (below_drew1 _), G2.out.kept (below_drew1 _)⟩) (first | (go_at_call 47; refine (fieldYes f _).mono ?_; rintro e u1 ⟨rfl, hbu⟩; have Va : Hid (Blk u1 (w.heap.size) 41 #[.bool en, .string (strOfNums nm), .int .i64 al, .int .i64 ac, .slice (some ⟨b1, o1, none⟩) 1 c1, .slice oa 0 oc, .slice da 0 dc, .slice ra 0 rc, .slice ta 0 tc]) := hid ((Ba.kept (below_drew1 _)).kept hbu); have Vv : Hid (Blk u1 (w.heap.size + 1) 64 #[.bool en, .string (strOfNums nm), .int .i64 al, .int .i64 ac, .slice (some ⟨b2, o2, none⟩) 1 c2, .slice oa2 0 oc2, .slice da2 0 dc2, .slice ra2 0 rc2, .slice ta2 0 tc2]) := hid ((Bv.kept (below_drew1 _)).kept hbu); have E1 := hid ((G1.out.kept (below_drew1 _)).kept hbu); have E2 := hid ((G2.out.kept (below_drew1 _)).kept hbu); have hbb : Hid (Below w.heap.size w u1) := hid (bl_then (by have := hb1.out; (repeat (first | with_reducible assumption | with_reducible refine bl_set ?_ (by first | (simp; done) | (simp; omega) | omega) _ | with_reducible refine bl_alloc ?_ _ | with_reducible refine bl_drew ?_ | with_reducible refine bl_drewN ?_ _ | with_reducible exact Below.refl _ _))) hbu); have hsu := hbu.size; clear hbu))
  clear p0 p1 p2 p3 p4 p5 p6 p7 p8 p9 p10 p11 p12 p13 p14 q0 q1 q2 q3 q4 q5 q6 q7 q8 q9 q10 q11 q12 q13 q14 xa xv
  have xa := Va.out.cellF
  have xv := Vv.out.cellF
  go_wp2
  rw [rounds_succ]
  go_wp2
  refine wp_loop_rounds 1 ?_
  rw [rounds_succ]
  go_wp2_with fail
  refine wp_loop_rounds 1 ?_
  rw [rounds_succ]
  go_wp2_with fail
  refine wp_loop_rounds 1 ?_
  rw [rounds_succ]
  go_wp2_with fail
  refine (declsNil _ _ _ _ _).mono ?_
  rintro e u2 ⟨rfl, hb9⟩
  have hB9 := hid (bl_then hbb.out hb9)
  clear hb9
  go_wp2
  go_ret
  exact ⟨rfl, hB9.out⟩
theorem declsOne (f : MF) (en : Bool) (nm : List Int) (al ac : Int) (b1 o1 c1 b2 o2 c2 : Nat) (oa da ra ta oa2 da2 ra2 ta2 : Option Addr) (oc dc rc tc oc2 dc2 rc2 tc2 : Nat) (e1 s1 k1 e2 s2 k2 : Nat) (w : World) (h1 : C15 w b1 o1 f) (h2 : C15 w b2 o2 f) (h3 : w.cell? ⟨e1, s1, none⟩ = some (.bool en) ∧ w.cell? ⟨e1, s1 + 1, none⟩ = some (.string (strOfNums nm)) ∧ w.cell? ⟨e1, s1 + 2, none⟩ = some (.int .i64 al) ∧ w.cell? ⟨e1, s1 + 3, none⟩ = some (.int .i64 ac) ∧ w.cell? ⟨e1, s1 + 4, none⟩ = some (.slice (some ⟨b1, o1, none⟩) 1 c1) ∧ w.cell? ⟨e1, s1 + 5, none⟩ = some (.slice oa 0 oc) ∧ w.cell? ⟨e1, s1 + 6, none⟩ = some (.slice da 0 dc) ∧ w.cell? ⟨e1, s1 + 7, none⟩ = some (.slice ra 0 rc) ∧ w.cell? ⟨e1, s1 + 8, none⟩ = some (.slice ta 0 tc)) (h4 : w.cell? ⟨e2, s2, none⟩ = some (.bool en) ∧ w.cell? ⟨e2, s2 + 1, none⟩ = some (.string (strOfNums nm)) ∧ w.cell? ⟨e2, s2 + 2, none⟩ = some (.int .i64 al) ∧ w.cell? ⟨e2, s2 + 3, none⟩ = some (.int .i64 ac) ∧ w.cell? ⟨e2, s2 + 4, none⟩ = some (.slice (some ⟨b2, o2, none⟩) 1 c2) ∧ w.cell? ⟨e2, s2 + 5, none⟩ = some (.slice oa2 0 oc2) ∧ w.cell? ⟨e2, s2 + 6, none⟩ = some (.slice da2 0 dc2) ∧ w.cell? ⟨e2, s2 + 7, none⟩ = some (.slice ra2 0 rc2) ∧ w.cell? ⟨e2, s2 + 8, none⟩ = some (.slice ta2 0 tc2)) : Calls Tryd.prog 14 #[.slice (some ⟨e1, s1, none⟩) 1 k1, .slice (some ⟨e2, s2, none⟩) 1 k2] w fun e w' => e = .returned (.bool true) ∧ Below w.heap.size w w' := by
  have H1 := hid h1
  have H2 := hid h2
  have H3 := hid h3
  have H4 := hid h4
  clear h1 h2
  obtain ⟨p0, p1, p2, p3, p4, p5, p6, p7, p8⟩ := h3
  obtain ⟨q0, q1, q2, q3, q4, q5, q6, q7, q8⟩ := h4
  go_enter Tryd.func14, Tryd.ntmps14
  go_wp2
  refine wp_loop_rounds 2 ?_
  rw [rounds_succ]
  go_wp2_with fail
  go_region_held3 (fun W => (W.cell? ⟨e1, s1, none⟩ = some (.bool en) ∧ W.cell? ⟨e1, s1 + 1, none⟩ = some (.string (strOfNums nm)) ∧ W.cell? ⟨e1, s1 + 2, none⟩ = some (.int .i64 al) ∧ W.cell? ⟨e1, s1 + 3, none⟩ = some (.int .i64 ac) ∧ W.cell? ⟨e1, s1 + 4, none⟩ = some (.slice (some ⟨b1, o1, none⟩) 1 c1) ∧ W.cell? ⟨e1, s1 + 5, none⟩ = some (.slice oa 0 oc) ∧ W.cell? ⟨e1, s1 + 6, none⟩ = some (.slice da 0 dc) ∧ W.cell? ⟨e1, s1 + 7, none⟩ = some (.slice ra 0 rc) ∧ W.cell? ⟨e1, s1 + 8, none⟩ = some (.slice ta 0 tc)) ∧ (W.cell? ⟨e2, s2, none⟩ = some (.bool en) ∧ W.cell? ⟨e2, s2 + 1, none⟩ = some (.string (strOfNums nm)) ∧ W.cell? ⟨e2, s2 + 2, none⟩ = some (.int .i64 al) ∧ W.cell? ⟨e2, s2 + 3, none⟩ = some (.int .i64 ac) ∧ W.cell? ⟨e2, s2 + 4, none⟩ = some (.slice (some ⟨b2, o2, none⟩) 1 c2) ∧ W.cell? ⟨e2, s2 + 5, none⟩ = some (.slice oa2 0 oc2) ∧ W.cell? ⟨e2, s2 + 6, none⟩ = some (.slice da2 0 dc2) ∧ W.cell? ⟨e2, s2 + 7, none⟩ = some (.slice ra2 0 rc2) ∧ W.cell? ⟨e2, s2 + 8, none⟩ = some (.slice ta2 0 tc2))) (first | exact ⟨E3.out, E4.out⟩ | exact ⟨H3.out, H4.out⟩) (first | (go_at_call 31; refine (declOne f en nm al ac b1 o1 c1 b2 o2 c2 oa da ra ta oa2 da2 ra2 ta2 oc dc rc tc oc2 dc2 rc2 tc2 _ (H1.out.kept (below_drew1 _)) (H2.out.kept (below_drew1 _))).mono ?_; rintro e u1 ⟨rfl, hbu⟩; have E3 : Hid (u1.cell? ⟨e1, s1, none⟩ = some (.bool en) ∧ u1.cell? ⟨e1, s1 + 1, none⟩ = some (.string (strOfNums nm)) ∧ u1.cell? ⟨e1, s1 + 2, none⟩ = some (.int .i64 al) ∧ u1.cell? ⟨e1, s1 + 3, none⟩ = some (.int .i64 ac) ∧ u1.cell? ⟨e1, s1 + 4, none⟩ = some (.slice (some ⟨b1, o1, none⟩) 1 c1) ∧ u1.cell? ⟨e1, s1 + 5, none⟩ = some (.slice oa 0 oc) ∧ u1.cell? ⟨e1, s1 + 6, none⟩ = some (.slice da 0 dc) ∧ u1.cell? ⟨e1, s1 + 7, none⟩ = some (.slice ra 0 rc) ∧ u1.cell? ⟨e1, s1 + 8, none⟩ = some (.slice ta 0 tc)) := hid ⟨cell_below p0 (bl_then (below_drew1 _) hbu), cell_below p1 (bl_then (below_drew1 _) hbu), cell_below p2 (bl_then (below_drew1 _) hbu), cell_below p3 (bl_then (below_drew1 _) hbu), cell_below p4 (bl_then (below_drew1 _) hbu), cell_below p5 (bl_then (below_drew1 _) hbu), cell_below p6 (bl_then (below_drew1 _) hbu), cell_below p7 (bl_then (below_drew1 _) hbu), cell_below p8 (bl_then (below_drew1 _) hbu)⟩; have E4 : Hid (u1.cell? ⟨e2, s2, none⟩ = some (.bool en) ∧ u1.cell? ⟨e2, s2 + 1, none⟩ = some (.string (strOfNums nm)) ∧ u1.cell? ⟨e2, s2 + 2, none⟩ = some (.int .i64 al) ∧ u1.cell? ⟨e2, s2 + 3, none⟩ = some (.int .i64 ac) ∧ u1.cell? ⟨e2, s2 + 4, none⟩ = some (.slice (some ⟨b2, o2, none⟩) 1 c2) ∧ u1.cell? ⟨e2, s2 + 5, none⟩ = some (.slice oa2 0 oc2) ∧ u1.cell? ⟨e2, s2 + 6, none⟩ = some (.slice da2 0 dc2) ∧ u1.cell? ⟨e2, s2 + 7, none⟩ = some (.slice ra2 0 rc2) ∧ u1.cell? ⟨e2, s2 + 8, none⟩ = some (.slice ta2 0 tc2)) := hid ⟨cell_below q0 (bl_then (below_drew1 _) hbu), cell_below q1 (bl_then (below_drew1 _) hbu), cell_below q2 (bl_then (below_drew1 _) hbu), cell_below q3 (bl_then (below_drew1 _) hbu), cell_below q4 (bl_then (below_drew1 _) hbu), cell_below q5 (bl_then (below_drew1 _) hbu), cell_below q6 (bl_then (below_drew1 _) hbu), cell_below q7 (bl_then (below_drew1 _) hbu), cell_below q8 (bl_then (below_drew1 _) hbu)⟩; have hbb : Hid (Below w.heap.size w u1) := hid (bl_then (below_drew1 _) hbu); clear hbu))
  go_wp2
  rw [rounds_succ]
  go_wp2
  go_ret
  exact ⟨rfl, hbb.out⟩
theorem sameOne (f : MF) (en : Bool) (nm : List Int) (al ac : Int) (b1 o1 c1 b2 o2 c2 : Nat) (oa da ra ta oa2 da2 ra2 ta2 : Option Addr) (oc dc rc tc oc2 dc2 rc2 tc2 : Nat) (e1 s1 k1 e2 s2 k2 : Nat) (ia ia2 : Option Addr) (ic ic2 : Nat) (w : World) (h1 : C15 w b1 o1 f) (h2 : C15 w b2 o2 f) (h3 : w.cell? ⟨e1, s1, none⟩ = some (.bool en) ∧ w.cell? ⟨e1, s1 + 1, none⟩ = some (.string (strOfNums nm)) ∧ w.cell? ⟨e1, s1 + 2, none⟩ = some (.int .i64 al) ∧ w.cell? ⟨e1, s1 + 3, none⟩ = some (.int .i64 ac) ∧ w.cell? ⟨e1, s1 + 4, none⟩ = some (.slice (some ⟨b1, o1, none⟩) 1 c1) ∧ w.cell? ⟨e1, s1 + 5, none⟩ = some (.slice oa 0 oc) ∧ w.cell? ⟨e1, s1 + 6, none⟩ = some (.slice da 0 dc) ∧ w.cell? ⟨e1, s1 + 7, none⟩ = some (.slice ra 0 rc) ∧ w.cell? ⟨e1, s1 + 8, none⟩ = some (.slice ta 0 tc)) (h4 : w.cell? ⟨e2, s2, none⟩ = some (.bool en) ∧ w.cell? ⟨e2, s2 + 1, none⟩ = some (.string (strOfNums nm)) ∧ w.cell? ⟨e2, s2 + 2, none⟩ = some (.int .i64 al) ∧ w.cell? ⟨e2, s2 + 3, none⟩ = some (.int .i64 ac) ∧ w.cell? ⟨e2, s2 + 4, none⟩ = some (.slice (some ⟨b2, o2, none⟩) 1 c2) ∧ w.cell? ⟨e2, s2 + 5, none⟩ = some (.slice oa2 0 oc2) ∧ w.cell? ⟨e2, s2 + 6, none⟩ = some (.slice da2 0 dc2) ∧ w.cell? ⟨e2, s2 + 7, none⟩ = some (.slice ra2 0 rc2) ∧ w.cell? ⟨e2, s2 + 8, none⟩ = some (.slice ta2 0 tc2)) : Calls Tryd.prog 9 #[.agg #[.slice ia 0 ic, .slice (some ⟨e1, s1, none⟩) 1 k1], .agg #[.slice ia2 0 ic2, .slice (some ⟨e2, s2, none⟩) 1 k2]] w fun e w' => e = .returned (.bool true) ∧ Below w.heap.size w w' := by
  have HD := hid (fun W (hb : Below w.heap.size w W) => declsOne f en nm al ac b1 o1 c1 b2 o2 c2 oa da ra ta oa2 da2 ra2 ta2 oc dc rc tc oc2 dc2 rc2 tc2 e1 s1 k1 e2 s2 k2 W (h1.kept hb) (h2.kept hb) (by obtain ⟨p0, p1, p2, p3, p4, p5, p6, p7, p8⟩ := h3; exact ⟨cell_below p0 hb, cell_below p1 hb, cell_below p2 hb, cell_below p3 hb, cell_below p4 hb, cell_below p5 hb, cell_below p6 hb, cell_below p7 hb, cell_below p8 hb⟩) (by obtain ⟨q0, q1, q2, q3, q4, q5, q6, q7, q8⟩ := h4; exact ⟨cell_below q0 hb, cell_below q1 hb, cell_below q2 hb, cell_below q3 hb, cell_below q4 hb, cell_below q5 hb, cell_below q6 hb, cell_below q7 hb, cell_below q8 hb⟩))
  clear h1 h2 h3 h4
  go_enter Tryd.func9, Tryd.ntmps9
  go_wp2
  refine wp_loop_rounds 1 ?_
  rw [rounds_succ]
  go_wp2_with fail
  refine (HD.out _ (by (repeat (first | with_reducible assumption | with_reducible refine bl_set ?_ (by first | (simp; done) | (simp; omega) | omega) _ | with_reducible refine bl_alloc ?_ _ | with_reducible refine bl_drew ?_ | with_reducible refine bl_drewN ?_ _ | with_reducible exact Below.refl _ _)))).mono ?_
  rintro e u2 ⟨rfl, hb9⟩
  have hB9 : Hid (Below w.heap.size w u2) := hid (bl_then (by (repeat (first | with_reducible assumption | with_reducible refine bl_set ?_ (by first | (simp; done) | (simp; omega) | omega) _ | with_reducible refine bl_alloc ?_ _ | with_reducible refine bl_drew ?_ | with_reducible refine bl_drewN ?_ _ | with_reducible exact Below.refl _ _))) hb9)
  clear hb9
  go_wp2
  go_ret
  exact ⟨rfl, hB9.out⟩
end Go.Proofs.YtidimdbnnnpplaaDoor
namespace Go.Proofs.YtidimdbnnnpplaaDoor
open Go.RowKit
set_option maxRecDepth 1000000
set_option linter.unusedVariables false
set_option linter.unusedSimpArgs false
set_option maxHeartbeats 8000000

theorem rowS_len {w : World} {Z : Nat → Prop} {k n m c : Nat} {a : Option Addr} {fl : List Value} (h : RowS w Z k (.slice a m c) n fl) : m = n := by
  obtain ⟨_, _, e, _⟩ := h
  cases e
  rfl
theorem rowS_cells {w : World} {Z : Nat → Prop} {k n m c : Nat} {a : Option Addr} {fl : List Value} (h : RowS w Z k (.slice a m c) n fl) (hn : n ≠ 0) : ∃ b o, a = some ⟨b, o, none⟩ ∧ ∀ j u, fl[j]? = some u → w.cell? ⟨b, o + j, none⟩ = some u := by
  obtain ⟨_, _, e, hv⟩ := h
  cases e
  rcases hv.cells with ⟨h0, _⟩ | ⟨b, o, e, _, hc⟩
  · exact absurd h0 hn
  · exact ⟨b, o, e, hc⟩
theorem rowS_at {w : World} {Z : Nat → Prop} {k n m c : Nat} {a : Option Addr} {fl : List Value} (h : RowS w Z k (.slice a m c) n fl) (hn : n ≠ 0) : ∃ b o, a = some ⟨b, o, none⟩ ∧ Z b ∧ ∀ j u, fl[j]? = some u → w.cell? ⟨b, o + j, none⟩ = some u := by
  obtain ⟨_, _, e, hv⟩ := h
  cases e
  rcases hv.cells with ⟨h0, _⟩ | ⟨b, o, e, hz, hc⟩
  · exact absurd h0 hn
  · exact ⟨b, o, e, hz, hc⟩
theorem rowS_slice {w : World} {Z : Nat → Prop} {k n : Nat} {v : Value} {fl : List Value} (h : RowS w Z k v n fl) : ∃ a c, v = .slice a n c := by
  obtain ⟨a, c, e, _⟩ := h
  exact ⟨a, c, e⟩
theorem map_one {dvs : List DV} {d : MD} (e : dvs.map DV.d = [d]) : ∃ y, dvs = [y] ∧ y.d = d := by
  cases dvs with
  | nil => simp at e
  | cons y r =>
    cases r with
    | nil => simp at e; exact ⟨y, rfl, e⟩
    | cons z r => simp at e
theorem map_two {dvs : List DV} {d1 d2 : MD} (e : dvs.map DV.d = [d1, d2]) : ∃ y z, dvs = [y, z] ∧ y.d = d1 ∧ z.d = d2 := by
  cases dvs with
  | nil => simp at e
  | cons y r =>
    simp only [List.map_cons, List.cons.injEq] at e
    obtain ⟨z, rfl, ez⟩ := map_one e.2
    exact ⟨y, z, rfl, e.1, ez⟩
/-- The lists of a file. -/
theorem fileR_len {w w' : World} {t : MT} {a1 : Option Addr} {n1 c1 : Nat} {a2 : Option Addr} {n2 c2 : Nat} (h : FileR w w' t (.slice a1 n1 c1) (.slice a2 n2 c2)) : n1 = t.imps.length ∧ n2 = t.decls.length := by
  obtain ⟨x, h1, h2, h3, ⟨_, ho, _, _, dvs, e, hd, _⟩⟩ := h
  rw [h2] at ho
  rw [h3] at hd
  have e1 := rowS_len ho
  have e2 := rowS_len hd
  rw [h1] at e1 e
  refine ⟨by rw [e1]; simp [toD], ?_⟩
  rw [e2]
  have := congrArg List.length e
  simpa [toD] using this
theorem failsW (xs : List Int) (cd ln cl : Int) (w : World) (hb : ∀ x ∈ xs, 0 ≤ x ∧ x ≤ 255) (hm : xs.length ≤ 9223372036854775807) (hs : Sentinel w 2) (hp : parseE xs = (⟨[], []⟩, cd, ln, cl)) : Calls Tryd.prog 6 #[.string (strOfNums xs), .int .i64 cd, .int .i64 ln, .int .i64 cl] w fun e w' => e = .returned (.bool true) ∧ Below w.heap.size w w' := by
  have HP := hid (parseIn xs w hb hm hs)
  rw [hp] at HP
  clear hb hm hs hp
  go_enter Tryd.func6, Tryd.ntmps6
  go_wp2_with fail
  refine HP.out.mono ?_
  rintro e w1 ⟨a1, n1, c1, a2, n2, c2, rfl, hb1, hF⟩
  obtain ⟨e1, e2⟩ := fileR_len hF.out
  simp only [List.length_nil] at e1 e2
  subst e1 e2
  have HB1 := hid hb1
  clear hb1 hF HP
  go_wp2
  go_ret
  exact ⟨rfl, by have := HB1.out; (repeat (first | with_reducible assumption | with_reducible refine bl_set ?_ (by first | (simp; done) | (simp; omega) | omega) _ | with_reducible refine bl_alloc ?_ _ | with_reducible refine bl_drew ?_ | with_reducible refine bl_drewN ?_ _ | with_reducible exact Below.refl _ _))⟩
theorem fileA {w w' : World} {a1 : Option Addr} {n1 k1 : Nat} {a2 : Option Addr} {n2 k2 : Nat} (h : FileR w w' ⟨[], [dA1]⟩ (.slice a1 n1 k1) (.slice a2 n2 k2)) : n1 = 0 ∧ n2 = 1 ∧ ∃ e1 s1 b1 o1 c1 oa oc da dc ra rc ta tc, a2 = some ⟨e1, s1, none⟩ ∧ C15 w' b1 o1 fA1 ∧ (w'.cell? ⟨e1, s1, none⟩ = some (.bool false) ∧ w'.cell? ⟨e1, s1 + 1, none⟩ = some (.string (strOfNums [65])) ∧ w'.cell? ⟨e1, s1 + 2, none⟩ = some (.int .i64 1) ∧ w'.cell? ⟨e1, s1 + 3, none⟩ = some (.int .i64 9) ∧ w'.cell? ⟨e1, s1 + 4, none⟩ = some (.slice (some ⟨b1, o1, none⟩) 1 c1) ∧ w'.cell? ⟨e1, s1 + 5, none⟩ = some (.slice oa 0 oc) ∧ w'.cell? ⟨e1, s1 + 6, none⟩ = some (.slice da 0 dc) ∧ w'.cell? ⟨e1, s1 + 7, none⟩ = some (.slice ra 0 rc) ∧ w'.cell? ⟨e1, s1 + 8, none⟩ = some (.slice ta 0 tc)) := by
  obtain ⟨h1, h2⟩ := fileR_len h
  obtain ⟨x, g1, g2, g3, ⟨_, _, _, _, dvs, e, hd, hys⟩⟩ := h
  rw [g3] at hd
  rw [g1] at e
  obtain ⟨y, rfl, ed⟩ := map_one (d := dA1) e
  obtain ⟨yd, yf, yo, ydd, yr, ys⟩ := y
  dsimp only at ed
  subst ed
  obtain ⟨rf, ro, rr, rs, dv2, e2, rd, _⟩ := hys _ (List.mem_cons_self ..)
  obtain rfl : dv2 = [] := by
    have : dv2.map DV.d = [] := e2
    simpa using this
  obtain ⟨fa, c1, rfl⟩ : ∃ fa c1, yf = .slice fa 1 c1 := rowS_slice rf
  obtain ⟨oa, oc, rfl⟩ : ∃ oa oc, yo = .slice oa 0 oc := rowS_slice ro
  obtain ⟨da, dc, rfl⟩ : ∃ da dc, ydd = .slice da 0 dc := rowS_slice rd
  obtain ⟨ra, rc, rfl⟩ : ∃ ra rc, yr = .slice ra 0 rc := rowS_slice rr
  obtain ⟨ta, tc, rfl⟩ : ∃ ta tc, ys = .slice ta 0 tc := rowS_slice rs
  obtain ⟨e1, s1, rfl, hc⟩ := rowS_cells hd (by simp)
  obtain ⟨b1, o1, rfl, hf⟩ := rowS_cells rf (by simp [dA1])
  exact ⟨h1, h2, e1, s1, b1, o1, c1, oa, oc, da, dc, ra, rc, ta, tc, rfl, ⟨hf 0 _ rfl, hf 1 _ rfl, hf 2 _ rfl, hf 3 _ rfl, hf 4 _ rfl, hf 5 _ rfl, hf 6 _ rfl, hf 7 _ rfl, hf 8 _ rfl, hf 9 _ rfl, hf 10 _ rfl, hf 11 _ rfl, hf 12 _ rfl, hf 13 _ rfl, hf 14 _ rfl⟩, hc 0 _ rfl, hc 1 _ rfl, hc 2 _ rfl, hc 3 _ rfl, hc 4 _ rfl, hc 5 _ rfl, hc 6 _ rfl, hc 7 _ rfl, hc 8 _ rfl⟩
theorem c15_of {W : World} {b : Nat} {t : TypeId} {cs : Array Value} {f : MF} (h : Blk W b t cs) (e : cs = (cF f).toArray) : C15 W b 0 f := by
  subst e
  exact ⟨h.cellF 0, h.cellF 1, h.cellF 2, h.cellF 3, h.cellF 4, h.cellF 5, h.cellF 6, h.cellF 7, h.cellF 8, h.cellF 9, h.cellF 10, h.cellF 11, h.cellF 12, h.cellF 13, h.cellF 14⟩
theorem c9_of {W : World} {b : Nat} {t : TypeId} {cs : Array Value} {y0 y1 y2 y3 y4 y5 y6 y7 y8 : Value} (h : Blk W b t cs) (e : cs = #[y0, y1, y2, y3, y4, y5, y6, y7, y8]) : W.cell? ⟨b, 0, none⟩ = some y0 ∧ W.cell? ⟨b, 0 + 1, none⟩ = some y1 ∧ W.cell? ⟨b, 0 + 2, none⟩ = some y2 ∧ W.cell? ⟨b, 0 + 3, none⟩ = some y3 ∧ W.cell? ⟨b, 0 + 4, none⟩ = some y4 ∧ W.cell? ⟨b, 0 + 5, none⟩ = some y5 ∧ W.cell? ⟨b, 0 + 6, none⟩ = some y6 ∧ W.cell? ⟨b, 0 + 7, none⟩ = some y7 ∧ W.cell? ⟨b, 0 + 8, none⟩ = some y8 := by
  subst e
  exact ⟨h.cellF 0, h.cellF 1, h.cellF 2, h.cellF 3, h.cellF 4, h.cellF 5, h.cellF 6, h.cellF 7, h.cellF 8⟩
theorem awake5 (w : World) (hs : Sentinel w 2) : Calls Tryd.prog 5 #[] w fun e w' => e = .returned (.bool true) ∧ Below w.heap.size w w' := by
  have HP := hid (parseIn txA w (by decide) (by decide) hs)
  rw [evA] at HP
  clear hs
  go_enter Tryd.func5, Tryd.ntmps5
  go_wp2_with fail
  refine HP.out.mono ?_
  rintro e w1 ⟨a1, n1, k1, a2, n2, k2, rfl, hb1, hF⟩
  obtain ⟨rfl, rfl, e1, s1, b1, o1, c1, oa, oc, da, dc, ra, rc, ta, tc, rfl, hc, hr⟩ := fileA hF.out
  have HB1 := hid hb1
  have HC := hid hc
  have HR := hid hr
  clear hb1 hF HP hc hr
  go_wp2_with fail
  refine (sameOne fA1 false [65] 1 9 b1 o1 c1 (w1.heap.size + 1 + 1 + 1) 0 1 oa da ra ta none none none none oc dc rc tc 0 0 0 0 e1 s1 k2 (w1.heap.size + 1 + 1 + 1 + 1) 0 1 a1 none k1 0 _ ?_ ?_ ?_ ?_).mono ?_
  · exact HC.out.kept (by (repeat (first | with_reducible assumption | with_reducible refine bl_set ?_ (by first | (simp; done) | (simp; omega) | omega) _ | with_reducible refine bl_alloc ?_ _ | with_reducible refine bl_drew ?_ | with_reducible refine bl_drewN ?_ _ | with_reducible exact Below.refl _ _)))
  · exact c15_of (f := fA1) (Blk.kept (Blk.newAt (by simp)) (below_alloc _)) rfl
  · obtain ⟨p0, p1, p2, p3, p4, p5, p6, p7, p8⟩ := HR.out
    exact ⟨cell_below p0 (by (repeat (first | with_reducible assumption | with_reducible refine bl_set ?_ (by first | (simp; done) | (simp; omega) | omega) _ | with_reducible refine bl_alloc ?_ _ | with_reducible refine bl_drew ?_ | with_reducible refine bl_drewN ?_ _ | with_reducible exact Below.refl _ _))), cell_below p1 (by (repeat (first | with_reducible assumption | with_reducible refine bl_set ?_ (by first | (simp; done) | (simp; omega) | omega) _ | with_reducible refine bl_alloc ?_ _ | with_reducible refine bl_drew ?_ | with_reducible refine bl_drewN ?_ _ | with_reducible exact Below.refl _ _))), cell_below p2 (by (repeat (first | with_reducible assumption | with_reducible refine bl_set ?_ (by first | (simp; done) | (simp; omega) | omega) _ | with_reducible refine bl_alloc ?_ _ | with_reducible refine bl_drew ?_ | with_reducible refine bl_drewN ?_ _ | with_reducible exact Below.refl _ _))), cell_below p3 (by (repeat (first | with_reducible assumption | with_reducible refine bl_set ?_ (by first | (simp; done) | (simp; omega) | omega) _ | with_reducible refine bl_alloc ?_ _ | with_reducible refine bl_drew ?_ | with_reducible refine bl_drewN ?_ _ | with_reducible exact Below.refl _ _))), cell_below p4 (by (repeat (first | with_reducible assumption | with_reducible refine bl_set ?_ (by first | (simp; done) | (simp; omega) | omega) _ | with_reducible refine bl_alloc ?_ _ | with_reducible refine bl_drew ?_ | with_reducible refine bl_drewN ?_ _ | with_reducible exact Below.refl _ _))), cell_below p5 (by (repeat (first | with_reducible assumption | with_reducible refine bl_set ?_ (by first | (simp; done) | (simp; omega) | omega) _ | with_reducible refine bl_alloc ?_ _ | with_reducible refine bl_drew ?_ | with_reducible refine bl_drewN ?_ _ | with_reducible exact Below.refl _ _))), cell_below p6 (by (repeat (first | with_reducible assumption | with_reducible refine bl_set ?_ (by first | (simp; done) | (simp; omega) | omega) _ | with_reducible refine bl_alloc ?_ _ | with_reducible refine bl_drew ?_ | with_reducible refine bl_drewN ?_ _ | with_reducible exact Below.refl _ _))), cell_below p7 (by (repeat (first | with_reducible assumption | with_reducible refine bl_set ?_ (by first | (simp; done) | (simp; omega) | omega) _ | with_reducible refine bl_alloc ?_ _ | with_reducible refine bl_drew ?_ | with_reducible refine bl_drewN ?_ _ | with_reducible exact Below.refl _ _))), cell_below p8 (by (repeat (first | with_reducible assumption | with_reducible refine bl_set ?_ (by first | (simp; done) | (simp; omega) | omega) _ | with_reducible refine bl_alloc ?_ _ | with_reducible refine bl_drew ?_ | with_reducible refine bl_drewN ?_ _ | with_reducible exact Below.refl _ _)))⟩
  · exact c9_of (Blk.newAt (by simp)) rfl
  rintro e u2 ⟨rfl, hb9⟩
  have HB9 : Hid (Below w.heap.size w u2) := hid (bl_then (by have := HB1.out; (repeat (first | with_reducible assumption | with_reducible refine bl_set ?_ (by first | (simp; done) | (simp; omega) | omega) _ | with_reducible refine bl_alloc ?_ _ | with_reducible refine bl_drew ?_ | with_reducible refine bl_drewN ?_ _ | with_reducible exact Below.refl _ _))) hb9)
  clear hb9
  go_wp2
  go_ret
  exact ⟨rfl, HB9.out⟩
end Go.Proofs.YtidimdbnnnpplaaDoor
namespace Go.Proofs.YtidimdbnnnpplaaDoor
open Go.RowKit
set_option maxRecDepth 1000000
set_option linter.unusedVariables false
set_option linter.unusedSimpArgs false
set_option maxHeartbeats 3000000

theorem parseB (w : World) (hs : Sentinel w 2) : Calls Tryd.prog 4 #[.string (strOfNums txB)] w fun e w' => (∃ i1 j1 k1 e1 s1 k2 b1 o1 fc, e = .returned (.tuple #[.agg #[.slice (some ⟨i1, j1, none⟩) 1 k1, .slice (some ⟨e1, s1, none⟩) 1 k2], .agg #[.int .i64 0, .int .i64 0, .int .i64 0, .int .i64 0]]) ∧ Hid (w'.cell? ⟨i1, j1, none⟩ = some (.string ⟨#[97]⟩) ∧ w'.cell? ⟨e1, s1 + 4, none⟩ = some (.slice (some ⟨b1, o1, none⟩) 3 fc) ∧ w'.cell? ⟨b1, o1 + 1, none⟩ = some (.string ⟨#[65, 46, 66]⟩) ∧ w'.cell? ⟨b1, o1 + 15 + 4, none⟩ = some (.int .i64 4) ∧ w'.cell? ⟨b1, o1 + 30 + 2, none⟩ = some (.string ⟨#[115, 116, 114, 105, 110, 103]⟩) ∧ w'.cell? ⟨b1, o1 + 30 + 4, none⟩ = some (.int .i64 5))) ∧ Below w.heap.size w w' := by
  have HP := parseIn txB w (by decide) (by decide) hs
  rw [evB] at HP
  refine HP.mono ?_
  rintro e w' ⟨a1, n1, k1, a2, n2, k2, rfl, hb, hF⟩
  refine ⟨?_, hb⟩
  obtain ⟨h1, h2⟩ := fileR_len hF.out
  obtain ⟨x, g1, g2, g3, ⟨_, hi, _, _, dvs, e, hd, hys⟩⟩ := hF.out
  rw [g3] at hd
  rw [g2, g1] at hi
  rw [g1] at e
  obtain ⟨y, rfl, ed⟩ := map_one (d := dB1) e
  obtain ⟨yd, yf, yo, ydd, yr, ys⟩ := y
  dsimp only at ed
  subst ed
  obtain ⟨rf, _⟩ := hys _ (List.mem_cons_self ..)
  obtain ⟨fa, fc, rfl⟩ : ∃ fa fc, yf = .slice fa 3 fc := rowS_slice rf
  obtain ⟨i1, j1, rfl, hi2⟩ := rowS_cells hi (by simp [toD])
  obtain ⟨e1, s1, rfl, hc⟩ := rowS_cells hd (by simp)
  obtain ⟨b1, o1, rfl, hf⟩ := rowS_cells rf (by simp [dB1])
  subst h1 h2
  exact ⟨i1, j1, k1, e1, s1, k2, b1, o1, fc, rfl, hid ⟨hi2 0 _ rfl, hc 4 _ rfl, hf 1 _ rfl, hf 19 _ rfl, hf 32 _ rfl, hf 34 _ rfl⟩⟩
theorem parseC (w : World) (hs : Sentinel w 2) : Calls Tryd.prog 4 #[.string (strOfNums txC)] w fun e w' => (∃ a1 k1 e2 s2 k2 b2 o2 rc ta tc, e = .returned (.tuple #[.agg #[.slice a1 0 k1, .slice (some ⟨e2, s2, none⟩) 2 k2], .agg #[.int .i64 0, .int .i64 0, .int .i64 0, .int .i64 0]]) ∧ w.heap.size ≤ e2 ∧ w.heap.size ≤ b2 ∧ Hid (w'.cell? ⟨e2, s2 + 7, none⟩ = some (.slice (some ⟨b2, o2, none⟩) 2 rc) ∧ w'.cell? ⟨b2, o2 + 4 + 1, none⟩ = some (.int .u64 5) ∧ w'.cell? ⟨e2, s2 + 9 + 8, none⟩ = some (.slice ta 1 tc))) ∧ Below w.heap.size w w' := by
  have HP := parseIn txC w (by decide) (by decide) hs
  rw [evC] at HP
  refine HP.mono ?_
  rintro e w' ⟨a1, n1, k1, a2, n2, k2, rfl, hb, hF⟩
  refine ⟨?_, hb⟩
  obtain ⟨h1, h2⟩ := fileR_len hF.out
  obtain ⟨x, g1, g2, g3, ⟨_, _, _, _, dvs, e, hd, hys⟩⟩ := hF.out
  rw [g3] at hd
  rw [g1] at e
  obtain ⟨y, z, rfl, ed, ez⟩ := map_two (d1 := dC1) (d2 := dC2) e
  obtain ⟨yd, yf, yo, ydd, yr, ys⟩ := y
  obtain ⟨zd, zf, zo, zdd, zr, zs⟩ := z
  dsimp only at ed ez
  subst ed ez
  obtain ⟨_, _, rr, _⟩ := hys _ (List.mem_cons_self ..)
  obtain ⟨_, _, _, rs, _⟩ := hys ⟨dC2, zf, zo, zdd, zr, zs⟩ (by simp)
  obtain ⟨ra, rc, rfl⟩ : ∃ ra rc, yr = .slice ra 2 rc := rowS_slice rr
  obtain ⟨ta, tc, rfl⟩ : ∃ ta tc, zs = .slice ta 1 tc := rowS_slice rs
  obtain ⟨e2, s2, rfl, ze, hc⟩ := rowS_at hd (by simp)
  obtain ⟨b2, o2, rfl, zb, hr⟩ := rowS_at rr (by simp [dC1])
  subst h1 h2
  exact ⟨a1, k1, e2, s2, k2, b2, o2, rc, ta, tc, rfl, ze.1, zb.1, hid ⟨hc 7 _ rfl, hr 5 _ rfl, hc 17 _ rfl⟩⟩
theorem knownW (w : World) (hs : Sentinel w 2) : Calls Tryd.prog 3 #[] w fun e w' => e = .returned (.bool true) ∧ Below w.heap.size w w' := by
  have HS := hid hs
  clear hs
  have hb0 : Hid (Below w.heap.size w w) := hid (Below.refl _ _)
  go_enter Tryd.func3, Tryd.ntmps3
  go_wp2_with fail
  refine (parseB _ (HS.out.kept (by have := hb0.out; (repeat (first | with_reducible assumption | with_reducible refine bl_set ?_ (by first | (simp; done) | (simp; omega) | omega) _ | with_reducible refine bl_alloc ?_ _ | with_reducible refine bl_drew ?_ | with_reducible refine bl_drewN ?_ _ | with_reducible exact Below.refl _ _))))).mono ?_
  rintro e w1 ⟨⟨i1, j1, k1, e1, s1, k2, b1, o1, fc, rfl, HC⟩, hb1⟩
  have hs1 := hb1.size
  try simp at hs1
  replace hb1 : Hid (Below w.heap.size w w1) := hid (bl_then (by have := hb0.out; (repeat (first | with_reducible assumption | with_reducible refine bl_set ?_ (by first | (simp; done) | (simp; omega) | omega) _ | with_reducible refine bl_alloc ?_ _ | with_reducible refine bl_drew ?_ | with_reducible refine bl_drewN ?_ _ | with_reducible exact Below.refl _ _))) hb1)
  go_wp2_with fail
  refine (awake5 _ (HS.out.kept (by have := hb1.out; (repeat (first | with_reducible assumption | with_reducible refine bl_set ?_ (by first | (simp; done) | (simp; omega) | omega) _ | with_reducible refine bl_alloc ?_ _ | with_reducible refine bl_drew ?_ | with_reducible refine bl_drewN ?_ _ | with_reducible exact Below.refl _ _))))).mono ?_
  rintro e w2 ⟨rfl, hb2⟩
  have HD2 : Hid (Below w1.heap.size w1 w2) := hid (bl_then (by (repeat (first | with_reducible assumption | with_reducible refine bl_set ?_ (by first | (simp; done) | (simp; omega) | omega) _ | with_reducible refine bl_alloc ?_ _ | with_reducible refine bl_drew ?_ | with_reducible refine bl_drewN ?_ _ | with_reducible exact Below.refl _ _))) hb2)
  have Cf : Blk w2 (w1.heap.size) 25 #[.slice (some ⟨i1, j1, none⟩) 1 k1, .slice (some ⟨e1, s1, none⟩) 1 k2] := Blk.kept (((Blk.newAt (by simp)).kept (below_alloc _)).is (by first | rfl | simp)) hb2
  have Cg : Blk w2 (w1.heap.size + 1) 28 #[.int .i64 0, .int .i64 0, .int .i64 0, .int .i64 0] := Blk.kept ((Blk.newAt (by simp)).is (by first | rfl | simp)) hb2
  have hs2 := hb2.size
  try simp at hs2
  have Bf := Cf
  clear Cf
  have xf := Bf.cellF
  have yf := Bf.frz
  have zf : w1.heap.size < w2.heap.size := by omega
  have Bg := Cg
  clear Cg
  have xg := Bg.cellF
  have yg := Bg.frz
  have zg : w1.heap.size + 1 < w2.heap.size := by omega
  replace hb2 : Hid (Below w.heap.size w w2) := hid (bl_then (by have := hb1.out; (repeat (first | with_reducible assumption | with_reducible refine bl_set ?_ (by first | (simp; done) | (simp; omega) | omega) _ | with_reducible refine bl_alloc ?_ _ | with_reducible refine bl_drew ?_ | with_reducible refine bl_drewN ?_ _ | with_reducible exact Below.refl _ _))) hb2)
  have HC2 : Hid (w2.cell? ⟨i1, j1, none⟩ = some (.string ⟨#[97]⟩) ∧ w2.cell? ⟨e1, s1 + 4, none⟩ = some (.slice (some ⟨b1, o1, none⟩) 3 fc) ∧ w2.cell? ⟨b1, o1 + 1, none⟩ = some (.string ⟨#[65, 46, 66]⟩) ∧ w2.cell? ⟨b1, o1 + 15 + 4, none⟩ = some (.int .i64 4) ∧ w2.cell? ⟨b1, o1 + 30 + 2, none⟩ = some (.string ⟨#[115, 116, 114, 105, 110, 103]⟩) ∧ w2.cell? ⟨b1, o1 + 30 + 4, none⟩ = some (.int .i64 5)) := hid (by
    obtain ⟨p0, p1, p2, p3, p4, p5⟩ := HC.out
    have hbb := HD2.out
    exact ⟨cell_below p0 hbb, cell_below p1 hbb, cell_below p2 hbb, cell_below p3 hbb, cell_below p4 hbb, cell_below p5 hbb⟩)
  obtain ⟨p0, p1, p2, p3, p4, p5⟩ := HC2.out
  go_wp2_with fail
  refine (parseC _ (HS.out.kept (by have := hb2.out; (repeat (first | with_reducible assumption | with_reducible refine bl_set ?_ (by first | (simp; done) | (simp; omega) | omega) _ | with_reducible refine bl_alloc ?_ _ | with_reducible refine bl_drew ?_ | with_reducible refine bl_drewN ?_ _ | with_reducible exact Below.refl _ _))))).mono ?_
  rintro e w3 ⟨⟨a1, k3, e2, s2, k4, b2, o2, rc, ta, tc, rfl, he2, hb2x, HE⟩, hb3⟩
  have Cf : Blk w3 (w1.heap.size) 25 #[.slice (some ⟨i1, j1, none⟩) 1 k1, .slice (some ⟨e1, s1, none⟩) 1 k2] := Blk.kept (Bf.is (by first | rfl | simp)) hb3
  have Cg : Blk w3 (w1.heap.size + 1) 28 #[.int .i64 0, .int .i64 0, .int .i64 0, .int .i64 0] := Blk.kept (Bg.is (by first | rfl | simp)) hb3
  clear Bf xf yf Bg xg yg
  have hs3 := hb3.size
  try simp at hs3
  have Bf := Cf
  clear Cf
  have xf := Bf.cellF
  have yf := Bf.frz
  replace zf : w1.heap.size < w3.heap.size := by omega
  have Bg := Cg
  clear Cg
  have xg := Bg.cellF
  have yg := Bg.frz
  replace zg : w1.heap.size + 1 < w3.heap.size := by omega
  replace hb3 : Hid (Below w.heap.size w w3) := hid (bl_then (by have := hb2.out; (repeat (first | with_reducible assumption | with_reducible refine bl_set ?_ (by first | (simp; done) | (simp; omega) | omega) _ | with_reducible refine bl_alloc ?_ _ | with_reducible refine bl_drew ?_ | with_reducible refine bl_drewN ?_ _ | with_reducible exact Below.refl _ _))) hb3)
  obtain ⟨q0, q1, q2⟩ := HE.out
  have n1 : e2 ≠ w1.heap.size + 1 := by omega
  have n2 : w1.heap.size + 1 ≠ e2 := by omega
  have n3 : b2 ≠ w1.heap.size + 1 := by omega
  have n4 : w1.heap.size + 1 ≠ b2 := by omega
  have m1 : e2 < w3.heap.size := World.block_lt_of_cell? _ _ q0
  have m2 : b2 < w3.heap.size := World.block_lt_of_cell? _ _ q1
  go_wp2_with fail
  refine (failsW txF 11 1 25 _ (by decide) (by decide) (HS.out.kept (by have := hb3.out; (repeat (first | with_reducible assumption | with_reducible refine bl_set ?_ (by first | (simp; done) | (simp; omega) | omega) _ | with_reducible refine bl_alloc ?_ _ | with_reducible refine bl_drew ?_ | with_reducible refine bl_drewN ?_ _ | with_reducible exact Below.refl _ _)))) evF).mono ?_
  rintro e w4 ⟨rfl, hb4⟩
  have Cf : Blk w4 (w1.heap.size) 25 #[.slice (some ⟨i1, j1, none⟩) 1 k1, .slice (some ⟨e1, s1, none⟩) 1 k2] := Blk.kept (((blkoth4 Bf (show w1.heap.size ≠ w1.heap.size + 1 by omega)).kept (below_alloc _)).is (by first | rfl | simp)) hb4
  have Cg : Blk w4 (w1.heap.size + 1) 28 #[.int .i64 0, .int .i64 0, .int .i64 0, .int .i64 0] := Blk.kept (((blkall4 Bg).kept (below_alloc _)).is (by first | rfl | simp)) hb4
  have Ch : Blk w4 (w3.heap.size) 25 #[.slice a1 0 k3, .slice (some ⟨e2, s2, none⟩) 2 k4] := Blk.kept ((Blk.newAt (by simp)).is (by first | rfl | simp)) hb4
  clear Bf xf yf Bg xg yg
  have hs4 := hb4.size
  try simp at hs4
  have Bf := Cf
  clear Cf
  have xf := Bf.cellF
  have yf := Bf.frz
  replace zf : w1.heap.size < w4.heap.size := by omega
  have Bg := Cg
  clear Cg
  have xg := Bg.cellF
  have yg := Bg.frz
  replace zg : w1.heap.size + 1 < w4.heap.size := by omega
  have Bh := Ch
  clear Ch
  have xh := Bh.cellF
  have yh := Bh.frz
  have zh : w3.heap.size < w4.heap.size := by omega
  replace hb4 : Hid (Below w.heap.size w w4) := hid (bl_then (by have := hb3.out; (repeat (first | with_reducible assumption | with_reducible refine bl_set ?_ (by first | (simp; done) | (simp; omega) | omega) _ | with_reducible refine bl_alloc ?_ _ | with_reducible refine bl_drew ?_ | with_reducible refine bl_drewN ?_ _ | with_reducible exact Below.refl _ _))) hb4)
  go_wp2_with fail
  refine (failsW txG 11 1 12 _ (by decide) (by decide) (HS.out.kept (by have := hb4.out; (repeat (first | with_reducible assumption | with_reducible refine bl_set ?_ (by first | (simp; done) | (simp; omega) | omega) _ | with_reducible refine bl_alloc ?_ _ | with_reducible refine bl_drew ?_ | with_reducible refine bl_drewN ?_ _ | with_reducible exact Below.refl _ _)))) evG).mono ?_
  rintro e w5 ⟨rfl, hb5⟩
  have Cf : Blk w5 (w1.heap.size) 25 #[.slice (some ⟨i1, j1, none⟩) 1 k1, .slice (some ⟨e1, s1, none⟩) 1 k2] := Blk.kept (Bf.is (by first | rfl | simp)) hb5
  have Cg : Blk w5 (w1.heap.size + 1) 28 #[.int .i64 0, .int .i64 0, .int .i64 0, .int .i64 0] := Blk.kept (Bg.is (by first | rfl | simp)) hb5
  have Ch : Blk w5 (w3.heap.size) 25 #[.slice a1 0 k3, .slice (some ⟨e2, s2, none⟩) 2 k4] := Blk.kept (Bh.is (by first | rfl | simp)) hb5
  clear Bf xf yf Bg xg yg Bh xh yh
  have hs5 := hb5.size
  try simp at hs5
  have Bf := Cf
  clear Cf
  have xf := Bf.cellF
  have yf := Bf.frz
  replace zf : w1.heap.size < w5.heap.size := by omega
  have Bg := Cg
  clear Cg
  have xg := Bg.cellF
  have yg := Bg.frz
  replace zg : w1.heap.size + 1 < w5.heap.size := by omega
  have Bh := Ch
  clear Ch
  have xh := Bh.cellF
  have yh := Bh.frz
  replace zh : w3.heap.size < w5.heap.size := by omega
  replace hb5 : Hid (Below w.heap.size w w5) := hid (bl_then (by have := hb4.out; (repeat (first | with_reducible assumption | with_reducible refine bl_set ?_ (by first | (simp; done) | (simp; omega) | omega) _ | with_reducible refine bl_alloc ?_ _ | with_reducible refine bl_drew ?_ | with_reducible refine bl_drewN ?_ _ | with_reducible exact Below.refl _ _))) hb5)
  go_wp2_with fail
  refine (failsW txH 11 1 1 _ (by decide) (by decide) (HS.out.kept (by have := hb5.out; (repeat (first | with_reducible assumption | with_reducible refine bl_set ?_ (by first | (simp; done) | (simp; omega) | omega) _ | with_reducible refine bl_alloc ?_ _ | with_reducible refine bl_drew ?_ | with_reducible refine bl_drewN ?_ _ | with_reducible exact Below.refl _ _)))) evH).mono ?_
  rintro e w6 ⟨rfl, hb6⟩
  have Cf : Blk w6 (w1.heap.size) 25 #[.slice (some ⟨i1, j1, none⟩) 1 k1, .slice (some ⟨e1, s1, none⟩) 1 k2] := Blk.kept (Bf.is (by first | rfl | simp)) hb6
  have Cg : Blk w6 (w1.heap.size + 1) 28 #[.int .i64 0, .int .i64 0, .int .i64 0, .int .i64 0] := Blk.kept (Bg.is (by first | rfl | simp)) hb6
  have Ch : Blk w6 (w3.heap.size) 25 #[.slice a1 0 k3, .slice (some ⟨e2, s2, none⟩) 2 k4] := Blk.kept (Bh.is (by first | rfl | simp)) hb6
  clear Bf xf yf Bg xg yg Bh xh yh
  have hs6 := hb6.size
  try simp at hs6
  have Bf := Cf
  clear Cf
  have xf := Bf.cellF
  have yf := Bf.frz
  replace zf : w1.heap.size < w6.heap.size := by omega
  have Bg := Cg
  clear Cg
  have xg := Bg.cellF
  have yg := Bg.frz
  replace zg : w1.heap.size + 1 < w6.heap.size := by omega
  have Bh := Ch
  clear Ch
  have xh := Bh.cellF
  have yh := Bh.frz
  replace zh : w3.heap.size < w6.heap.size := by omega
  replace hb6 : Hid (Below w.heap.size w w6) := hid (bl_then (by have := hb5.out; (repeat (first | with_reducible assumption | with_reducible refine bl_set ?_ (by first | (simp; done) | (simp; omega) | omega) _ | with_reducible refine bl_alloc ?_ _ | with_reducible refine bl_drew ?_ | with_reducible refine bl_drewN ?_ _ | with_reducible exact Below.refl _ _))) hb6)
  go_wp2_with fail
  refine (failsW txI 11 1 23 _ (by decide) (by decide) (HS.out.kept (by have := hb6.out; (repeat (first | with_reducible assumption | with_reducible refine bl_set ?_ (by first | (simp; done) | (simp; omega) | omega) _ | with_reducible refine bl_alloc ?_ _ | with_reducible refine bl_drew ?_ | with_reducible refine bl_drewN ?_ _ | with_reducible exact Below.refl _ _)))) evI).mono ?_
  rintro e w7 ⟨rfl, hb7⟩
  have Cf : Blk w7 (w1.heap.size) 25 #[.slice (some ⟨i1, j1, none⟩) 1 k1, .slice (some ⟨e1, s1, none⟩) 1 k2] := Blk.kept (Bf.is (by first | rfl | simp)) hb7
  have Cg : Blk w7 (w1.heap.size + 1) 28 #[.int .i64 0, .int .i64 0, .int .i64 0, .int .i64 0] := Blk.kept (Bg.is (by first | rfl | simp)) hb7
  have Ch : Blk w7 (w3.heap.size) 25 #[.slice a1 0 k3, .slice (some ⟨e2, s2, none⟩) 2 k4] := Blk.kept (Bh.is (by first | rfl | simp)) hb7
  clear Bf xf yf Bg xg yg Bh xh yh
  have hs7 := hb7.size
  try simp at hs7
  have Bf := Cf
  clear Cf
  have xf := Bf.cellF
  have yf := Bf.frz
  replace zf : w1.heap.size < w7.heap.size := by omega
  have Bg := Cg
  clear Cg
  have xg := Bg.cellF
  have yg := Bg.frz
  replace zg : w1.heap.size + 1 < w7.heap.size := by omega
  have Bh := Ch
  clear Ch
  have xh := Bh.cellF
  have yh := Bh.frz
  replace zh : w3.heap.size < w7.heap.size := by omega
  replace hb7 : Hid (Below w.heap.size w w7) := hid (bl_then (by have := hb6.out; (repeat (first | with_reducible assumption | with_reducible refine bl_set ?_ (by first | (simp; done) | (simp; omega) | omega) _ | with_reducible refine bl_alloc ?_ _ | with_reducible refine bl_drew ?_ | with_reducible refine bl_drewN ?_ _ | with_reducible exact Below.refl _ _))) hb7)
  go_wp2
  go_ret
  exact ⟨rfl, by have := hb7.out; (repeat (first | with_reducible assumption | with_reducible refine bl_set ?_ (by first | (simp; done) | (simp; omega) | omega) _ | with_reducible refine bl_alloc ?_ _ | with_reducible refine bl_drew ?_ | with_reducible refine bl_drewN ?_ _ | with_reducible exact Below.refl _ _))⟩
end Go.Proofs.YtidimdbnnnpplaaDoor
namespace Go.Proofs.YtidimdbnnnpplaaDoor
open Go.ChangeShapes Go.WideShapes Go.ChangeAt Go.RowKit
set_option maxRecDepth 1000000
set_option maxRecDepth 100000

theorem laidMet_tail {P : Program} {x : String × DataW Unit} {r : List (String × DataW Unit)} {W : World} (h : laidMet P (x :: r) W) : laidMet P r W := by
  obtain ⟨ps, ⟨g, t, cs, fuel, p, q, _, _, _, _, h5, e⟩, hnd, hrows⟩ := h
  subst e
  exact ⟨q, h5, (List.nodup_append.1 hnd).2.1, fun b off hm => hrows b off (by simp [hm])⟩
theorem gR : Tryd.prog.globalNamed "strconv.ErrRange" = some 2 := by kernel_rfl
theorem gRType : (Tryd.prog.globals[2]?).map (·.type) = some 100 := by kernel_rfl
theorem starE : "*" ++ "errors.errorString" = "*errors.errorString" := by decide
theorem ptrRow : ∀ u, Tryd.prog.typeName? 3 u = some "*errors.errorString" → u = 149 := fun u h =>
  typeName_ptr_named (nm := "errors.errorString") (by rw [starE]; kernel_rfl) (by kernel_rfl) (by decide) u (by rw [starE]; exact h)
theorem cellsE : Tryd.prog.cellsOf 151 = 1 := by kernel_rfl
theorem cellsStr : Tryd.prog.cellsOf 9 = 1 := by kernel_rfl
/-- The rows' list. -/
def laidL : List (String × DataW Unit) := [("math/bits.deBruijn32tab", Rows.laid_math_bits_deBruijn32tab), ("math/bits.deBruijn64tab", Rows.laid_math_bits_deBruijn64tab), ("internal/strconv.uint64pow10", Rows.laid_internal_strconv_uint64pow10), ("strconv.ErrRange", Rows.laid_strconv_ErrRange), ("strconv.ErrSyntax", Rows.laid_strconv_ErrSyntax)]
theorem laid_plain {W : World} (h : laidMetH Tryd.prog laidL W) : laidMet Tryd.prog laidL W := h
theorem laid_range {W : World} (h : laidMet Tryd.prog laidL W) : Sentinel W 2 := by
  obtain ⟨a, t, hv, _⟩ := laid_sentinel (laidMet_tail (laidMet_tail (laidMet_tail h))) gR gRType Tryd.underlying100 ptrRow Tryd.underlying149 Tryd.underlying151 rfl rfl Tryd.underlying9 cellsE cellsStr
  exact ⟨149, _, by simpa using World.var?_cell gR hv 0⟩
/-- Where the two errors' blocks lie. -/
noncomputable def low : Nat := (World.holding Tryd.prog default ⟨#[], #[], []⟩).heap.size
/-- A block's cells laid anew. -/
noncomputable def layAt (g : Nat) (cs : Array Value) (w : World) : World := { w with heap := w.heap.modify g fun
      | .cells _ t frozen => .cells cs t frozen
      | o => o }
noncomputable def laidWorld (os : Os) : World :=
  layAt 4 (List.toArray (.int .u8 0 :: .int .u8 1 :: .int .u8 28 :: .int .u8 2 :: .int .u8 29 :: .int .u8 14 :: .int .u8 24 :: .int .u8 3 :: .int .u8 30 :: .int .u8 22 :: .int .u8 20 :: .int .u8 15 :: .int .u8 25 :: .int .u8 17 :: .int .u8 4 :: .int .u8 8 :: .int .u8 31 :: .int .u8 27 :: .int .u8 13 :: .int .u8 23 :: .int .u8 21 :: .int .u8 19 :: .int .u8 16 :: .int .u8 7 :: .int .u8 26 :: .int .u8 12 :: .int .u8 18 :: .int .u8 6 :: .int .u8 11 :: .int .u8 5 :: .int .u8 10 :: .int .u8 9 :: [])) (layAt 5 (List.toArray (.int .u8 0 :: .int .u8 1 :: .int .u8 56 :: .int .u8 2 :: .int .u8 57 :: .int .u8 49 :: .int .u8 28 :: .int .u8 3 :: .int .u8 61 :: .int .u8 58 :: .int .u8 42 :: .int .u8 50 :: .int .u8 38 :: .int .u8 29 :: .int .u8 17 :: .int .u8 4 :: .int .u8 62 :: .int .u8 47 :: .int .u8 59 :: .int .u8 36 :: .int .u8 45 :: .int .u8 43 :: .int .u8 51 :: .int .u8 22 :: .int .u8 53 :: .int .u8 39 :: .int .u8 33 :: .int .u8 30 :: .int .u8 24 :: .int .u8 18 :: .int .u8 12 :: .int .u8 5 :: .int .u8 63 :: .int .u8 55 :: .int .u8 48 :: .int .u8 27 :: .int .u8 60 :: .int .u8 41 :: .int .u8 37 :: .int .u8 16 :: .int .u8 46 :: .int .u8 35 :: .int .u8 44 :: .int .u8 21 :: .int .u8 52 :: .int .u8 32 :: .int .u8 23 :: .int .u8 11 :: .int .u8 54 :: .int .u8 26 :: .int .u8 40 :: .int .u8 15 :: .int .u8 34 :: .int .u8 20 :: .int .u8 31 :: .int .u8 10 :: .int .u8 25 :: .int .u8 14 :: .int .u8 19 :: .int .u8 9 :: .int .u8 13 :: .int .u8 8 :: .int .u8 7 :: .int .u8 6 :: [])) (layAt 3 (List.toArray (.int .u64 1 :: .int .u64 10 :: .int .u64 100 :: .int .u64 1000 :: .int .u64 10000 :: .int .u64 100000 :: .int .u64 1000000 :: .int .u64 10000000 :: .int .u64 100000000 :: .int .u64 1000000000 :: .int .u64 10000000000 :: .int .u64 100000000000 :: .int .u64 1000000000000 :: .int .u64 10000000000000 :: .int .u64 100000000000000 :: .int .u64 1000000000000000 :: .int .u64 10000000000000000 :: .int .u64 100000000000000000 :: .int .u64 1000000000000000000 :: .int .u64 10000000000000000000 :: []))
    (layAt 2 #[.iface 149 (.pointer (some ⟨low, 0, none⟩))] (layAt 1 #[.iface 149 (.pointer (some ⟨low + 1, 0, none⟩))]
      (World.holding Tryd.prog os ⟨#[.cells #[.string ⟨#[118, 97, 108, 117, 101, 32, 111, 117, 116, 32, 111, 102, 32, 114, 97, 110, 103, 101]⟩] 151, .cells #[.string ⟨#[105, 110, 118, 97, 108, 105, 100, 32, 115, 121, 110, 116, 97, 120]⟩] 151], #[], []⟩)))))
theorem laid_met (os : Os) (args : Array Value) : laidMet Tryd.prog laidL ((laidWorld os).forCall (fun _ _ => 0) ⟨#[], args, []⟩).memory :=
  laidMet_of_run' 8 (by kernel_rfl) (by kernel_rfl)
end Go.Proofs.YtidimdbnnnpplaaDoor
