/-
  Parse: a text's tree, or the first fault.
  The law's own looks at places and fields.
  The law's own looks at a file of one message with one field.
  The known texts, read by the program.
  The law's own looks at declarations: two of the same tree.
-/
import Derived.Test.YtidimdbnnnpplaaGreatDoorCPZm
import Derived.Test.YtidimdbnnnpplaaGreatDoorCPX
import Derived.Test.YtidimdbnnnpplaaGreatDoorCYL
import Derived.Test.YtidimdbnnnpplaaGreatDoorCPKb
import Derived.Test.YtidimdbnnnpplaaGreatDoorCPMb
namespace Go.Proofs.YtidimdbnnnpplaaGreatDoor
open Go.RowKit
set_option maxRecDepth 1000000
set_option linter.unusedVariables false
set_option linter.unusedSimpArgs false
set_option maxHeartbeats 8000000
/-- A file's tree in memory. -/
def FileR (w w' : World) (t : MT) (v1 v2 : Value) : Prop := ∃ x : DV, x.d = toD t ∧ x.o = v1 ∧ x.dd = v2 ∧ RD 10 w' (fun k => w.heap.size ≤ k ∧ k < w'.heap.size) x
def ParseG (w : World) (g : MT × Int × Int × Int) (e : Ending) (w' : World) : Prop :=
  ∃ a1 n1 c1 a2 n2 c2, e = .returned (.tuple #[.agg #[.slice a1 n1 c1, .slice a2 n2 c2], .agg #[.int .i64 g.2.1, .int .i64 0, .int .i64 g.2.2.1, .int .i64 g.2.2.2]]) ∧ Below w.heap.size w w' ∧ Hid (FileR w w' g.1 (.slice a1 n1 c1) (.slice a2 n2 c2))
theorem fileR_nil (w w' : World) : FileR w w' ⟨[], []⟩ (.slice none 0 0) (.slice none 0 0) :=
  ⟨⟨toD ⟨[], []⟩, .slice none 0 0, .slice none 0 0, .slice none 0 0, .slice none 0 0, .slice none 0 0⟩, rfl, rfl, rfl, rowS_nil _ _ _, rowS_nil _ _ _, rowS_nil _ _ _, rowS_nil _ _ _, [], rfl, rowS_nil _ _ _, by simp⟩
theorem parseIn (xs : List Int) (w : World) (hb : ∀ x ∈ xs, 0 ≤ x ∧ x ≤ 255) (hm : xs.length ≤ 9223372036854775807) (hs : Sentinel w 3) : Calls Tryz.prog 6 #[.string (strOfNums xs)] w fun e w' => ParseG w (parseE xs) e w' := by
  have HSP := hid (splitW xs ((w.alloc (.cells #[.slice none 0 0, .slice none 0 0] 25)).alloc (.cells #[.int .i64 0, .int .i64 0, .int .i64 0, .int .i64 0] 28)) hb hm (hs.kept (below_twoo _ _)))
  have HW := hid (outE_ws hb)
  unfold parseE
  clear hb hm hs
  generalize outE xs = g at *
  obtain ⟨ms, cd, l, c⟩ := g
  have hcd0 : Hid (parseG (ms, cd, l, c) = parseG (ms, cd, l, c)) := hid rfl
  go_enter Tryz.func6, Tryz.ntmps6
  go_wp2_with fail
  refine HSP.out.mono ?_
  rintro e w1 ⟨a, k, rfl, hr, hb1⟩
  dsimp only at hr HW
  have B1 : Blk w1 w.heap.size 25 #[.slice none 0 0, .slice none 0 0] := Blk.kept ((Blk.newAt (w := w) rfl).kept (below_alloc _)) hb1
  have B2 : Blk w1 (w.heap.size + 1) 28 #[.int .i64 0, .int .i64 0, .int .i64 0, .int .i64 0] := Blk.kept (Blk.newAt (by simp)) hb1
  have hs1 := hb1.size
  try simp at hs1
  have HB1 := hid (below_trans (below_twoo _ _) hb1)
  have HRW := hid hr
  clear hb1 hr HSP
  by_cases hcd : cd = 0
  · subst hcd
    have HWs := HW.out rfl
    have HG : Hid (parseG (ms, 0, l, c) = if (wsM ms).2.cd = 0 then ((wsM ms).1, 0, 0, 0) else (⟨[], []⟩, (wsM ms).2.cd, (wsM ms).2.ln, (wsM ms).2.cl)) := hid rfl
    obtain ⟨m0, mr, hms⟩ := HWs.ne
    obtain ⟨bw, ow, rfl⟩ : ∃ bw ow, a = some ⟨bw, ow, none⟩ := by
      rcases HRW.out.cells with ⟨h0, _⟩ | ⟨bw, ow, e, _⟩
      · rw [hms] at h0; simp at h0
      · exact ⟨bw, ow, e⟩
    have HL : Hid (0 < ms.length ∧ ms.length ≤ 70000) := hid ⟨by rw [hms]; simp, HWs.len⟩
    have HWS := hid HWs
    clear hms HWs HW m0 mr
    have x1 := B1.cellF
    have y1 := B1.frz
    have z1 := B1.lt
    have x2 := B2.cellF
    have y2 := B2.frz
    have z2 := B2.lt
    go_wp2_with fail
    refine (treeW w1 bw ow k ms (w1.heap.size + 1) _ 0 (wsM ms).2 (fun W v1 v2 => ∃ x : DV, x.d = toD (wsM ms).1 ∧ x.o = v1 ∧ x.dd = v2 ∧ RD 10 W (fun q => w1.heap.size + 4 ≤ q ∧ q < W.heap.size) x) ?_ ?_ ?_).mono ?_
    · rintro W W' v1 v2 ⟨x, h1, h2, h3, h4⟩ hK
      refine ⟨x, h1, h2, h3, RD.weak (fun q hq => ⟨hq.1, Nat.lt_of_lt_of_le hq.2 hK.size⟩) _ _ (RD.keep hK (fun q hq => ?_) _ _ h4)⟩
      simp
      omega
    · intro W hW hsz
      refine (fileW w1 bw ow k ms (w1.heap.size + 1) W 0 HL.out.2 hW).mono ?_
      rintro e w' ⟨hK, (⟨a1, n1, c1, a2, n2, c2, rfl, h0, h1⟩ | hF)⟩
      · refine ⟨hK, .inl ⟨a1, n1, c1, a2, n2, c2, rfl, h0, hid ?_⟩⟩
        obtain ⟨x, h1, h2, h3, h4⟩ := h1.out
        refine ⟨x, h1, h2, h3, RD.weak (fun q hq => ⟨?_, hq.2⟩) _ _ h4⟩
        simp at hsz
        omega
      · exact ⟨hK, .inr hF⟩
    · refine ⟨?_, ?_, ?_, HRW.out, ?_, ?_⟩
      · exact Blk.newAt (by simp)
      · exact below_trans (below_alloc _) (below_alloc _)
      · omega
      · exact HWS.out
      · exact HL.out.1
    · rintro e w2 ⟨hK2, (⟨a1, n1, c1, a2, n2, c2, rfl, hS, x, g1, g2, g3, g4⟩ | ⟨hS, rfl⟩)⟩
      · have hB2 : Hid (Below w.heap.size w w2) := hid (HB1.out.trans (Keep.below (Keep.trans (kp_alloc (kp_alloc (Keep.refl _ _) _) _) hK2) (by omega) (fun k hk => by omega)))
        have D1 := Blk.keep ((B1.kept (below_alloc _)).kept (below_alloc _)) hK2 (show w.heap.size ≠ w1.heap.size + 1 by omega)
        have D2 := Blk.keep ((B2.kept (below_alloc _)).kept (below_alloc _)) hK2 (show w.heap.size + 1 ≠ w1.heap.size + 1 by omega)
        have hs2 := hK2.size
        try simp at hs2
        clear hK2 x1 y1 z1 x2 y2 z2 B1 B2
        have d1 := D1.cellF
        have e1 := D1.frz
        have f1 := D1.lt
        have d2 := D2.cellF
        have e2 := D2.frz
        have f2 := D2.lt
        go_wp2
        exact bodyPost_ret (v := .tuple #[.agg #[.slice a1 n1 c1, .slice a2 n2 c2], .agg #[.int .i64 0, .int .i64 0, .int .i64 0, .int .i64 0]]) (by simp [results, Tryz.results6, go_sem, d1, d2, f1, f2]) rfl ⟨a1, n1, c1, a2, n2, c2, by rw [HG.out, if_pos hS], by have := hB2.out; exact blBy, hid (by rw [HG.out, if_pos hS]; exact ⟨x, g1, g2, g3, RD.weak (fun q hq => ⟨by omega, by have := hq.2; simp; omega⟩) _ _ (RD.keep (f := fun q => w1.heap.size ≤ q) (kp_set (kp_set (kp_set (kp_set (kp_set (kp_set (Keep.refl _ _) (.inl (by simp; omega)) _) (.inl (by simp; omega)) _) (.inl (by simp; omega)) _) (.inl (by simp; omega)) _) (.inl (by simp; omega)) _) (.inl (by simp; omega)) _) (fun q hq => by omega) _ _ g4)⟩)⟩
      · have hB2 : Hid (Below w.heap.size w w2) := hid (HB1.out.trans (Keep.below (Keep.trans (kp_alloc (kp_alloc (Keep.refl _ _) _) _) hK2) (by omega) (fun k hk => by omega)))
        have D1 := Blk.keep ((B1.kept (below_alloc _)).kept (below_alloc _)) hK2 (show w.heap.size ≠ w1.heap.size + 1 by omega)
        have D2 := Blk.keep ((B2.kept (below_alloc _)).kept (below_alloc _)) hK2 (show w.heap.size + 1 ≠ w1.heap.size + 1 by omega)
        have hs2 := hK2.size
        try simp at hs2
        clear hK2 x1 y1 z1 x2 y2 z2 B1 B2
        have d1 := D1.cellF
        have e1 := D1.frz
        have f1 := D1.lt
        have d2 := D2.cellF
        have e2 := D2.frz
        have f2 := D2.lt
        go_wp2
        exact bodyPost_ret (v := .tuple #[.agg #[.slice none 0 0, .slice none 0 0], .agg #[.int .i64 (wsM ms).2.cd, .int .i64 0, .int .i64 (wsM ms).2.ln, .int .i64 (wsM ms).2.cl]]) (by simp [results, Tryz.results6, go_sem, d1, d2, f1, f2]) rfl ⟨none, 0, 0, none, 0, 0, by rw [HG.out, if_neg hS], by have := hB2.out; exact blBy, hid (by rw [HG.out, if_neg hS]; exact fileR_nil _ _)⟩
  · have HG : Hid (parseG (ms, cd, l, c) = (⟨[], []⟩, cd, l, c)) := hid (by unfold parseG; rw [if_neg hcd])
    have x1 := B1.cellF
    have y1 := B1.frz
    have z1 := B1.lt
    have x2 := B2.cellF
    have y2 := B2.frz
    have z2 := B2.lt
    go_wp2_with fail
    go_region
    all_goals (go_wp2; exact bodyPost_ret (v := .tuple #[.agg #[.slice none 0 0, .slice none 0 0], .agg #[.int .i64 cd, .int .i64 0, .int .i64 l, .int .i64 c]]) (by simp [results, Tryz.results6, go_sem, x1, x2, z1, z2]) rfl ⟨none, 0, 0, none, 0, 0, by rw [HG.out], by have := HB1.out; exact blBy, hid (by rw [HG.out]; exact fileR_nil _ _)⟩)
theorem placeYes (l c : Int) (w : World) : Calls Tryz.prog 23 #[.agg #[.int .i64 l, .int .i64 c], .agg #[.int .i64 l, .int .i64 c]] w fun e w' => e = .returned (.bool true) ∧ Below w.heap.size w w' := by
  go_enter Tryz.func23, Tryz.ntmps23
  go_wp2
  go_ret
  exact ⟨rfl, by exact blBy⟩
theorem fieldYes (g : MF) (w : World) : Calls Tryz.prog 83 #[.agg #[.string (strOfNums g.name), .string (strOfNums g.ty), .string (strOfNums g.key), .int .u64 g.num, .int .i64 g.label, .int .i64 g.packed, .int .i64 g.oneof, .int .i64 g.at1.1, .int .i64 g.at1.2, .int .i64 g.nat1.1, .int .i64 g.nat1.2, .int .i64 g.tat.1, .int .i64 g.tat.2, .int .i64 g.mat.1, .int .i64 g.mat.2], .agg #[.string (strOfNums g.name), .string (strOfNums g.ty), .string (strOfNums g.key), .int .u64 g.num, .int .i64 g.label, .int .i64 g.packed, .int .i64 g.oneof, .int .i64 g.at1.1, .int .i64 g.at1.2, .int .i64 g.nat1.1, .int .i64 g.nat1.2, .int .i64 g.tat.1, .int .i64 g.tat.2, .int .i64 g.mat.1, .int .i64 g.mat.2]] w fun e w' => e = .returned (.bool true) ∧ Below w.heap.size w w' := by
  obtain ⟨nm, ty, key, num, label, packed, oneof, ⟨al, ac⟩, ⟨nl, nc⟩, ⟨tl, tc⟩, ⟨ml, mc⟩⟩ := g
  dsimp only
  have hb0 : Hid (Below w.heap.size w w) := hid (Below.refl _ _)
  go_enter Tryz.func83, Tryz.ntmps83
  go_wp2_with fail
  refine (placeYes al ac _).mono ?_
  rintro e w1 ⟨rfl, hb1⟩
  have Ba : Blk w1 (w.heap.size) 143 #[.string (strOfNums nm), .string (strOfNums ty), .string (strOfNums key), .int .u64 num, .int .i64 label, .int .i64 packed, .int .i64 oneof, .int .i64 al, .int .i64 ac, .int .i64 nl, .int .i64 nc, .int .i64 tl, .int .i64 tc, .int .i64 ml, .int .i64 mc] := Blk.kept (((Blk.newAt (by simp)).kept (below_alloc _)).is (by first | rfl | simp)) hb1
  have Bv : Blk w1 (w.heap.size + 1) 78 #[.string (strOfNums nm), .string (strOfNums ty), .string (strOfNums key), .int .u64 num, .int .i64 label, .int .i64 packed, .int .i64 oneof, .int .i64 al, .int .i64 ac, .int .i64 nl, .int .i64 nc, .int .i64 tl, .int .i64 tc, .int .i64 ml, .int .i64 mc] := Blk.kept ((Blk.newAt (by simp)).is (by first | rfl | simp)) hb1
  have hs1 := hb1.size
  try simp at hs1
  have xa := Ba.cellF
  have ya := Ba.frz
  have za : w.heap.size < w1.heap.size := by omega
  have xv := Bv.cellF
  have yv := Bv.frz
  have zv : w.heap.size + 1 < w1.heap.size := by omega
  replace hb1 : Hid (Below w.heap.size w w1) := hid (bl_then (by have := hb0.out; exact blBy) hb1)
  go_wp2_with fail
  refine (placeYes nl nc _).mono ?_
  rintro e w2 ⟨rfl, hb2⟩
  replace Ba : Blk w2 (w.heap.size) 143 #[.string (strOfNums nm), .string (strOfNums ty), .string (strOfNums key), .int .u64 num, .int .i64 label, .int .i64 packed, .int .i64 oneof, .int .i64 al, .int .i64 ac, .int .i64 nl, .int .i64 nc, .int .i64 tl, .int .i64 tc, .int .i64 ml, .int .i64 mc] := Blk.kept (Ba.is (by first | rfl | simp)) hb2
  replace Bv : Blk w2 (w.heap.size + 1) 78 #[.string (strOfNums nm), .string (strOfNums ty), .string (strOfNums key), .int .u64 num, .int .i64 label, .int .i64 packed, .int .i64 oneof, .int .i64 al, .int .i64 ac, .int .i64 nl, .int .i64 nc, .int .i64 tl, .int .i64 tc, .int .i64 ml, .int .i64 mc] := Blk.kept (Bv.is (by first | rfl | simp)) hb2
  clear xa ya xv yv
  have hs2 := hb2.size
  try simp at hs2
  have xa := Ba.cellF
  have ya := Ba.frz
  replace za : w.heap.size < w2.heap.size := by omega
  have xv := Bv.cellF
  have yv := Bv.frz
  replace zv : w.heap.size + 1 < w2.heap.size := by omega
  replace hb2 : Hid (Below w.heap.size w w2) := hid (bl_then (by have := hb1.out; exact blBy) hb2)
  go_wp2_with fail
  refine (placeYes tl tc _).mono ?_
  rintro e w3 ⟨rfl, hb3⟩
  replace Ba : Blk w3 (w.heap.size) 143 #[.string (strOfNums nm), .string (strOfNums ty), .string (strOfNums key), .int .u64 num, .int .i64 label, .int .i64 packed, .int .i64 oneof, .int .i64 al, .int .i64 ac, .int .i64 nl, .int .i64 nc, .int .i64 tl, .int .i64 tc, .int .i64 ml, .int .i64 mc] := Blk.kept (Ba.is (by first | rfl | simp)) hb3
  replace Bv : Blk w3 (w.heap.size + 1) 78 #[.string (strOfNums nm), .string (strOfNums ty), .string (strOfNums key), .int .u64 num, .int .i64 label, .int .i64 packed, .int .i64 oneof, .int .i64 al, .int .i64 ac, .int .i64 nl, .int .i64 nc, .int .i64 tl, .int .i64 tc, .int .i64 ml, .int .i64 mc] := Blk.kept (Bv.is (by first | rfl | simp)) hb3
  clear xa ya xv yv
  have hs3 := hb3.size
  try simp at hs3
  have xa := Ba.cellF
  have ya := Ba.frz
  replace za : w.heap.size < w3.heap.size := by omega
  have xv := Bv.cellF
  have yv := Bv.frz
  replace zv : w.heap.size + 1 < w3.heap.size := by omega
  replace hb3 : Hid (Below w.heap.size w w3) := hid (bl_then (by have := hb2.out; exact blBy) hb3)
  go_wp2_with fail
  refine (placeYes ml mc _).mono ?_
  rintro e w4 ⟨rfl, hb4⟩
  replace Ba : Blk w4 (w.heap.size) 143 #[.string (strOfNums nm), .string (strOfNums ty), .string (strOfNums key), .int .u64 num, .int .i64 label, .int .i64 packed, .int .i64 oneof, .int .i64 al, .int .i64 ac, .int .i64 nl, .int .i64 nc, .int .i64 tl, .int .i64 tc, .int .i64 ml, .int .i64 mc] := Blk.kept (Ba.is (by first | rfl | simp)) hb4
  replace Bv : Blk w4 (w.heap.size + 1) 78 #[.string (strOfNums nm), .string (strOfNums ty), .string (strOfNums key), .int .u64 num, .int .i64 label, .int .i64 packed, .int .i64 oneof, .int .i64 al, .int .i64 ac, .int .i64 nl, .int .i64 nc, .int .i64 tl, .int .i64 tc, .int .i64 ml, .int .i64 mc] := Blk.kept (Bv.is (by first | rfl | simp)) hb4
  clear xa ya xv yv
  have hs4 := hb4.size
  try simp at hs4
  have xa := Ba.cellF
  have ya := Ba.frz
  replace za : w.heap.size < w4.heap.size := by omega
  have xv := Bv.cellF
  have yv := Bv.frz
  replace zv : w.heap.size + 1 < w4.heap.size := by omega
  replace hb4 : Hid (Below w.heap.size w w4) := hid (bl_then (by have := hb3.out; exact blBy) hb4)
  go_wp2
  go_ret
  exact ⟨rfl, by have := hb4.out; exact blBy⟩
/-- A field's cells. -/
def C15 (W : World) (b o : Nat) (f : MF) : Prop := W.cell? ⟨b, o, none⟩ = some (.string (strOfNums f.name)) ∧ W.cell? ⟨b, o + 1, none⟩ = some (.string (strOfNums f.ty)) ∧ W.cell? ⟨b, o + 2, none⟩ = some (.string (strOfNums f.key)) ∧ W.cell? ⟨b, o + 3, none⟩ = some (.int .u64 f.num) ∧ W.cell? ⟨b, o + 4, none⟩ = some (.int .i64 f.label) ∧ W.cell? ⟨b, o + 5, none⟩ = some (.int .i64 f.packed) ∧ W.cell? ⟨b, o + 6, none⟩ = some (.int .i64 f.oneof) ∧ W.cell? ⟨b, o + 7, none⟩ = some (.int .i64 f.at1.1) ∧ W.cell? ⟨b, o + 8, none⟩ = some (.int .i64 f.at1.2) ∧ W.cell? ⟨b, o + 9, none⟩ = some (.int .i64 f.nat1.1) ∧ W.cell? ⟨b, o + 10, none⟩ = some (.int .i64 f.nat1.2) ∧ W.cell? ⟨b, o + 11, none⟩ = some (.int .i64 f.tat.1) ∧ W.cell? ⟨b, o + 12, none⟩ = some (.int .i64 f.tat.2) ∧ W.cell? ⟨b, o + 13, none⟩ = some (.int .i64 f.mat.1) ∧ W.cell? ⟨b, o + 14, none⟩ = some (.int .i64 f.mat.2)
theorem C15.kept {W W' : World} {b o : Nat} {f : MF} (h : C15 W b o f) (hb : Below W.heap.size W W') : C15 W' b o f := by
  obtain ⟨h0, h1, h2, h3, h4, h5, h6, h7, h8, h9, h10, h11, h12, h13, h14⟩ := h
  exact ⟨cell_below h0 hb, cell_below h1 hb, cell_below h2 hb, cell_below h3 hb, cell_below h4 hb, cell_below h5 hb, cell_below h6 hb, cell_below h7 hb, cell_below h8 hb, cell_below h9 hb, cell_below h10 hb, cell_below h11 hb, cell_below h12 hb, cell_below h13 hb, cell_below h14 hb⟩
theorem declsNil (a1 a2 : Option Addr) (c1 c2 : Nat) (w : World) : Calls Tryz.prog 24 #[.slice a1 0 c1, .slice a2 0 c2] w fun e w' => e = .returned (.bool true) ∧ Below w.heap.size w w' := by
  go_enter Tryz.func24, Tryz.ntmps24
  go_wp2
  refine wp_loop_rounds 1 ?_
  rw [rounds_succ]
  go_wp2
  go_ret
  exact ⟨rfl, by exact blBy⟩
theorem declOne (f : MF) (en : Bool) (nm : List Int) (al ac : Int) (b1 o1 c1 b2 o2 c2 : Nat) (oa da ra ta oa2 da2 ra2 ta2 : Option Addr) (oc dc rc tc oc2 dc2 rc2 tc2 : Nat) (w : World) (h1 : C15 w b1 o1 f) (h2 : C15 w b2 o2 f) : Calls Tryz.prog 48 #[.agg #[.bool en, .string (strOfNums nm), .int .i64 al, .int .i64 ac, .slice (some ⟨b1, o1, none⟩) 1 c1, .slice oa 0 oc, .slice da 0 dc, .slice ra 0 rc, .slice ta 0 tc], .agg #[.bool en, .string (strOfNums nm), .int .i64 al, .int .i64 ac, .slice (some ⟨b2, o2, none⟩) 1 c2, .slice oa2 0 oc2, .slice da2 0 dc2, .slice ra2 0 rc2, .slice ta2 0 tc2]] w fun e w' => e = .returned (.bool true) ∧ Below w.heap.size w w' := by
  have H1 := hid h1
  have H2 := hid h2
  clear h1 h2
  have hb0 : Hid (Below w.heap.size w w) := hid (Below.refl _ _)
  go_enter Tryz.func48, Tryz.ntmps48
  go_wp2_with fail
  refine (placeYes al ac _).mono ?_
  rintro e w1 ⟨rfl, hb1⟩
  have Ba : Blk w1 (w.heap.size) 102 #[.bool en, .string (strOfNums nm), .int .i64 al, .int .i64 ac, .slice (some ⟨b1, o1, none⟩) 1 c1, .slice oa 0 oc, .slice da 0 dc, .slice ra 0 rc, .slice ta 0 tc] := Blk.kept (((Blk.newAt (by simp)).kept (below_alloc _)).is (by first | rfl | simp)) hb1
  have Bv : Blk w1 (w.heap.size + 1) 74 #[.bool en, .string (strOfNums nm), .int .i64 al, .int .i64 ac, .slice (some ⟨b2, o2, none⟩) 1 c2, .slice oa2 0 oc2, .slice da2 0 dc2, .slice ra2 0 rc2, .slice ta2 0 tc2] := Blk.kept ((Blk.newAt (by simp)).is (by first | rfl | simp)) hb1
  have hs1 := hb1.size
  try simp at hs1
  have xa := Ba.cellF
  have ya := Ba.frz
  have za : w.heap.size < w1.heap.size := by omega
  have xv := Bv.cellF
  have yv := Bv.frz
  have zv : w.heap.size + 1 < w1.heap.size := by omega
  replace hb1 : Hid (Below w.heap.size w w1) := hid (bl_then (by have := hb0.out; exact blBy) hb1)
  have G1 := hid (H1.out.kept hb1.out)
  have G2 := hid (H2.out.kept hb1.out)
  obtain ⟨p0, p1, p2, p3, p4, p5, p6, p7, p8, p9, p10, p11, p12, p13, p14⟩ := G1.out
  obtain ⟨q0, q1, q2, q3, q4, q5, q6, q7, q8, q9, q10, q11, q12, q13, q14⟩ := G2.out
  go_wp2
  refine wp_loop_rounds 2 ?_
  rw [rounds_succ]
  go_wp2_with fail
  go_region_held3 (fun W => W.cell? ⟨w.heap.size, 4, none⟩ = some (.slice (some ⟨b1, o1, none⟩) 1 c1) ∧ W.cell? ⟨w.heap.size + 1, 4, none⟩ = some (.slice (some ⟨b2, o2, none⟩) 1 c2) ∧ (W.cell? ⟨b1, o1, none⟩ = some (.string (strOfNums f.name)) ∧ W.cell? ⟨b1, o1 + 1, none⟩ = some (.string (strOfNums f.ty)) ∧ W.cell? ⟨b1, o1 + 2, none⟩ = some (.string (strOfNums f.key)) ∧ W.cell? ⟨b1, o1 + 3, none⟩ = some (.int .u64 f.num) ∧ W.cell? ⟨b1, o1 + 4, none⟩ = some (.int .i64 f.label) ∧ W.cell? ⟨b1, o1 + 5, none⟩ = some (.int .i64 f.packed) ∧ W.cell? ⟨b1, o1 + 6, none⟩ = some (.int .i64 f.oneof) ∧ W.cell? ⟨b1, o1 + 7, none⟩ = some (.int .i64 f.at1.1) ∧ W.cell? ⟨b1, o1 + 8, none⟩ = some (.int .i64 f.at1.2) ∧ W.cell? ⟨b1, o1 + 9, none⟩ = some (.int .i64 f.nat1.1) ∧ W.cell? ⟨b1, o1 + 10, none⟩ = some (.int .i64 f.nat1.2) ∧ W.cell? ⟨b1, o1 + 11, none⟩ = some (.int .i64 f.tat.1) ∧ W.cell? ⟨b1, o1 + 12, none⟩ = some (.int .i64 f.tat.2) ∧ W.cell? ⟨b1, o1 + 13, none⟩ = some (.int .i64 f.mat.1) ∧ W.cell? ⟨b1, o1 + 14, none⟩ = some (.int .i64 f.mat.2)) ∧ (W.cell? ⟨b2, o2, none⟩ = some (.string (strOfNums f.name)) ∧ W.cell? ⟨b2, o2 + 1, none⟩ = some (.string (strOfNums f.ty)) ∧ W.cell? ⟨b2, o2 + 2, none⟩ = some (.string (strOfNums f.key)) ∧ W.cell? ⟨b2, o2 + 3, none⟩ = some (.int .u64 f.num) ∧ W.cell? ⟨b2, o2 + 4, none⟩ = some (.int .i64 f.label) ∧ W.cell? ⟨b2, o2 + 5, none⟩ = some (.int .i64 f.packed) ∧ W.cell? ⟨b2, o2 + 6, none⟩ = some (.int .i64 f.oneof) ∧ W.cell? ⟨b2, o2 + 7, none⟩ = some (.int .i64 f.at1.1) ∧ W.cell? ⟨b2, o2 + 8, none⟩ = some (.int .i64 f.at1.2) ∧ W.cell? ⟨b2, o2 + 9, none⟩ = some (.int .i64 f.nat1.1) ∧ W.cell? ⟨b2, o2 + 10, none⟩ = some (.int .i64 f.nat1.2) ∧ W.cell? ⟨b2, o2 + 11, none⟩ = some (.int .i64 f.tat.1) ∧ W.cell? ⟨b2, o2 + 12, none⟩ = some (.int .i64 f.tat.2) ∧ W.cell? ⟨b2, o2 + 13, none⟩ = some (.int .i64 f.mat.1) ∧ W.cell? ⟨b2, o2 + 14, none⟩ = some (.int .i64 f.mat.2))) (first | exact ⟨Va.out.cellF 4, Vv.out.cellF 4, E1.out, E2.out⟩ | exact ⟨(Ba.kept (below_drew1 _)).cellF 4, (Bv.kept (below_drew1 _)).cellF 4, G1.out.kept (below_drew1 _), G2.out.kept (below_drew1 _)⟩) (first | (go_at_call 83; refine (fieldYes f _).mono ?_; rintro e u1 ⟨rfl, hbu⟩; have Va : Hid (Blk u1 (w.heap.size) 102 #[.bool en, .string (strOfNums nm), .int .i64 al, .int .i64 ac, .slice (some ⟨b1, o1, none⟩) 1 c1, .slice oa 0 oc, .slice da 0 dc, .slice ra 0 rc, .slice ta 0 tc]) := hid ((Ba.kept (below_drew1 _)).kept hbu); have Vv : Hid (Blk u1 (w.heap.size + 1) 74 #[.bool en, .string (strOfNums nm), .int .i64 al, .int .i64 ac, .slice (some ⟨b2, o2, none⟩) 1 c2, .slice oa2 0 oc2, .slice da2 0 dc2, .slice ra2 0 rc2, .slice ta2 0 tc2]) := hid ((Bv.kept (below_drew1 _)).kept hbu); have E1 := hid ((G1.out.kept (below_drew1 _)).kept hbu); have E2 := hid ((G2.out.kept (below_drew1 _)).kept hbu); have hbb : Hid (Below w.heap.size w u1) := hid (bl_then (by have := hb1.out; exact blBy) hbu); have hsu := hbu.size; clear hbu))
  clear p0 p1 p2 p3 p4 p5 p6 p7 p8 p9 p10 p11 p12 p13 p14 q0 q1 q2 q3 q4 q5 q6 q7 q8 q9 q10 q11 q12 q13 q14 xa xv
  have xa := Va.out.cellF
  have xv := Vv.out.cellF
  go_wp2
  rw [rounds_succ]
  go_wp2
  refine wp_loop_rounds 1 ?_
  rw [rounds_succ]
  go_wp2_with fail
  refine wp_loop_rounds 1 ?_
  rw [rounds_succ]
  go_wp2_with fail
  refine wp_loop_rounds 1 ?_
  rw [rounds_succ]
  go_wp2_with fail
  refine (declsNil _ _ _ _ _).mono ?_
  rintro e u2 ⟨rfl, hb9⟩
  have hB9 := hid (bl_then hbb.out hb9)
  clear hb9
  go_wp2
  go_ret
  exact ⟨rfl, hB9.out⟩
theorem declsOne (f : MF) (en : Bool) (nm : List Int) (al ac : Int) (b1 o1 c1 b2 o2 c2 : Nat) (oa da ra ta oa2 da2 ra2 ta2 : Option Addr) (oc dc rc tc oc2 dc2 rc2 tc2 : Nat) (e1 s1 k1 e2 s2 k2 : Nat) (w : World) (h1 : C15 w b1 o1 f) (h2 : C15 w b2 o2 f) (h3 : w.cell? ⟨e1, s1, none⟩ = some (.bool en) ∧ w.cell? ⟨e1, s1 + 1, none⟩ = some (.string (strOfNums nm)) ∧ w.cell? ⟨e1, s1 + 2, none⟩ = some (.int .i64 al) ∧ w.cell? ⟨e1, s1 + 3, none⟩ = some (.int .i64 ac) ∧ w.cell? ⟨e1, s1 + 4, none⟩ = some (.slice (some ⟨b1, o1, none⟩) 1 c1) ∧ w.cell? ⟨e1, s1 + 5, none⟩ = some (.slice oa 0 oc) ∧ w.cell? ⟨e1, s1 + 6, none⟩ = some (.slice da 0 dc) ∧ w.cell? ⟨e1, s1 + 7, none⟩ = some (.slice ra 0 rc) ∧ w.cell? ⟨e1, s1 + 8, none⟩ = some (.slice ta 0 tc)) (h4 : w.cell? ⟨e2, s2, none⟩ = some (.bool en) ∧ w.cell? ⟨e2, s2 + 1, none⟩ = some (.string (strOfNums nm)) ∧ w.cell? ⟨e2, s2 + 2, none⟩ = some (.int .i64 al) ∧ w.cell? ⟨e2, s2 + 3, none⟩ = some (.int .i64 ac) ∧ w.cell? ⟨e2, s2 + 4, none⟩ = some (.slice (some ⟨b2, o2, none⟩) 1 c2) ∧ w.cell? ⟨e2, s2 + 5, none⟩ = some (.slice oa2 0 oc2) ∧ w.cell? ⟨e2, s2 + 6, none⟩ = some (.slice da2 0 dc2) ∧ w.cell? ⟨e2, s2 + 7, none⟩ = some (.slice ra2 0 rc2) ∧ w.cell? ⟨e2, s2 + 8, none⟩ = some (.slice ta2 0 tc2)) : Calls Tryz.prog 24 #[.slice (some ⟨e1, s1, none⟩) 1 k1, .slice (some ⟨e2, s2, none⟩) 1 k2] w fun e w' => e = .returned (.bool true) ∧ Below w.heap.size w w' := by
  have H1 := hid h1
  have H2 := hid h2
  have H3 := hid h3
  have H4 := hid h4
  clear h1 h2
  obtain ⟨p0, p1, p2, p3, p4, p5, p6, p7, p8⟩ := h3
  obtain ⟨q0, q1, q2, q3, q4, q5, q6, q7, q8⟩ := h4
  go_enter Tryz.func24, Tryz.ntmps24
  go_wp2
  refine wp_loop_rounds 2 ?_
  rw [rounds_succ]
  go_wp2_with fail
  go_region_held3 (fun W => (W.cell? ⟨e1, s1, none⟩ = some (.bool en) ∧ W.cell? ⟨e1, s1 + 1, none⟩ = some (.string (strOfNums nm)) ∧ W.cell? ⟨e1, s1 + 2, none⟩ = some (.int .i64 al) ∧ W.cell? ⟨e1, s1 + 3, none⟩ = some (.int .i64 ac) ∧ W.cell? ⟨e1, s1 + 4, none⟩ = some (.slice (some ⟨b1, o1, none⟩) 1 c1) ∧ W.cell? ⟨e1, s1 + 5, none⟩ = some (.slice oa 0 oc) ∧ W.cell? ⟨e1, s1 + 6, none⟩ = some (.slice da 0 dc) ∧ W.cell? ⟨e1, s1 + 7, none⟩ = some (.slice ra 0 rc) ∧ W.cell? ⟨e1, s1 + 8, none⟩ = some (.slice ta 0 tc)) ∧ (W.cell? ⟨e2, s2, none⟩ = some (.bool en) ∧ W.cell? ⟨e2, s2 + 1, none⟩ = some (.string (strOfNums nm)) ∧ W.cell? ⟨e2, s2 + 2, none⟩ = some (.int .i64 al) ∧ W.cell? ⟨e2, s2 + 3, none⟩ = some (.int .i64 ac) ∧ W.cell? ⟨e2, s2 + 4, none⟩ = some (.slice (some ⟨b2, o2, none⟩) 1 c2) ∧ W.cell? ⟨e2, s2 + 5, none⟩ = some (.slice oa2 0 oc2) ∧ W.cell? ⟨e2, s2 + 6, none⟩ = some (.slice da2 0 dc2) ∧ W.cell? ⟨e2, s2 + 7, none⟩ = some (.slice ra2 0 rc2) ∧ W.cell? ⟨e2, s2 + 8, none⟩ = some (.slice ta2 0 tc2))) (first | exact ⟨E3.out, E4.out⟩ | exact ⟨H3.out, H4.out⟩) (first | (go_at_call 48; refine (declOne f en nm al ac b1 o1 c1 b2 o2 c2 oa da ra ta oa2 da2 ra2 ta2 oc dc rc tc oc2 dc2 rc2 tc2 _ (H1.out.kept (below_drew1 _)) (H2.out.kept (below_drew1 _))).mono ?_; rintro e u1 ⟨rfl, hbu⟩; have E3 : Hid (u1.cell? ⟨e1, s1, none⟩ = some (.bool en) ∧ u1.cell? ⟨e1, s1 + 1, none⟩ = some (.string (strOfNums nm)) ∧ u1.cell? ⟨e1, s1 + 2, none⟩ = some (.int .i64 al) ∧ u1.cell? ⟨e1, s1 + 3, none⟩ = some (.int .i64 ac) ∧ u1.cell? ⟨e1, s1 + 4, none⟩ = some (.slice (some ⟨b1, o1, none⟩) 1 c1) ∧ u1.cell? ⟨e1, s1 + 5, none⟩ = some (.slice oa 0 oc) ∧ u1.cell? ⟨e1, s1 + 6, none⟩ = some (.slice da 0 dc) ∧ u1.cell? ⟨e1, s1 + 7, none⟩ = some (.slice ra 0 rc) ∧ u1.cell? ⟨e1, s1 + 8, none⟩ = some (.slice ta 0 tc)) := hid ⟨cell_below p0 (bl_then (below_drew1 _) hbu), cell_below p1 (bl_then (below_drew1 _) hbu), cell_below p2 (bl_then (below_drew1 _) hbu), cell_below p3 (bl_then (below_drew1 _) hbu), cell_below p4 (bl_then (below_drew1 _) hbu), cell_below p5 (bl_then (below_drew1 _) hbu), cell_below p6 (bl_then (below_drew1 _) hbu), cell_below p7 (bl_then (below_drew1 _) hbu), cell_below p8 (bl_then (below_drew1 _) hbu)⟩; have E4 : Hid (u1.cell? ⟨e2, s2, none⟩ = some (.bool en) ∧ u1.cell? ⟨e2, s2 + 1, none⟩ = some (.string (strOfNums nm)) ∧ u1.cell? ⟨e2, s2 + 2, none⟩ = some (.int .i64 al) ∧ u1.cell? ⟨e2, s2 + 3, none⟩ = some (.int .i64 ac) ∧ u1.cell? ⟨e2, s2 + 4, none⟩ = some (.slice (some ⟨b2, o2, none⟩) 1 c2) ∧ u1.cell? ⟨e2, s2 + 5, none⟩ = some (.slice oa2 0 oc2) ∧ u1.cell? ⟨e2, s2 + 6, none⟩ = some (.slice da2 0 dc2) ∧ u1.cell? ⟨e2, s2 + 7, none⟩ = some (.slice ra2 0 rc2) ∧ u1.cell? ⟨e2, s2 + 8, none⟩ = some (.slice ta2 0 tc2)) := hid ⟨cell_below q0 (bl_then (below_drew1 _) hbu), cell_below q1 (bl_then (below_drew1 _) hbu), cell_below q2 (bl_then (below_drew1 _) hbu), cell_below q3 (bl_then (below_drew1 _) hbu), cell_below q4 (bl_then (below_drew1 _) hbu), cell_below q5 (bl_then (below_drew1 _) hbu), cell_below q6 (bl_then (below_drew1 _) hbu), cell_below q7 (bl_then (below_drew1 _) hbu), cell_below q8 (bl_then (below_drew1 _) hbu)⟩; have hbb : Hid (Below w.heap.size w u1) := hid (bl_then (below_drew1 _) hbu); clear hbu))
  go_wp2
  rw [rounds_succ]
  go_wp2
  go_ret
  exact ⟨rfl, hbb.out⟩
theorem sameOne (f : MF) (en : Bool) (nm : List Int) (al ac : Int) (b1 o1 c1 b2 o2 c2 : Nat) (oa da ra ta oa2 da2 ra2 ta2 : Option Addr) (oc dc rc tc oc2 dc2 rc2 tc2 : Nat) (e1 s1 k1 e2 s2 k2 : Nat) (ia ia2 : Option Addr) (ic ic2 : Nat) (w : World) (h1 : C15 w b1 o1 f) (h2 : C15 w b2 o2 f) (h3 : w.cell? ⟨e1, s1, none⟩ = some (.bool en) ∧ w.cell? ⟨e1, s1 + 1, none⟩ = some (.string (strOfNums nm)) ∧ w.cell? ⟨e1, s1 + 2, none⟩ = some (.int .i64 al) ∧ w.cell? ⟨e1, s1 + 3, none⟩ = some (.int .i64 ac) ∧ w.cell? ⟨e1, s1 + 4, none⟩ = some (.slice (some ⟨b1, o1, none⟩) 1 c1) ∧ w.cell? ⟨e1, s1 + 5, none⟩ = some (.slice oa 0 oc) ∧ w.cell? ⟨e1, s1 + 6, none⟩ = some (.slice da 0 dc) ∧ w.cell? ⟨e1, s1 + 7, none⟩ = some (.slice ra 0 rc) ∧ w.cell? ⟨e1, s1 + 8, none⟩ = some (.slice ta 0 tc)) (h4 : w.cell? ⟨e2, s2, none⟩ = some (.bool en) ∧ w.cell? ⟨e2, s2 + 1, none⟩ = some (.string (strOfNums nm)) ∧ w.cell? ⟨e2, s2 + 2, none⟩ = some (.int .i64 al) ∧ w.cell? ⟨e2, s2 + 3, none⟩ = some (.int .i64 ac) ∧ w.cell? ⟨e2, s2 + 4, none⟩ = some (.slice (some ⟨b2, o2, none⟩) 1 c2) ∧ w.cell? ⟨e2, s2 + 5, none⟩ = some (.slice oa2 0 oc2) ∧ w.cell? ⟨e2, s2 + 6, none⟩ = some (.slice da2 0 dc2) ∧ w.cell? ⟨e2, s2 + 7, none⟩ = some (.slice ra2 0 rc2) ∧ w.cell? ⟨e2, s2 + 8, none⟩ = some (.slice ta2 0 tc2)) : Calls Tryz.prog 9 #[.agg #[.slice ia 0 ic, .slice (some ⟨e1, s1, none⟩) 1 k1], .agg #[.slice ia2 0 ic2, .slice (some ⟨e2, s2, none⟩) 1 k2]] w fun e w' => e = .returned (.bool true) ∧ Below w.heap.size w w' := by
  have HD := hid (fun W (hb : Below w.heap.size w W) => declsOne f en nm al ac b1 o1 c1 b2 o2 c2 oa da ra ta oa2 da2 ra2 ta2 oc dc rc tc oc2 dc2 rc2 tc2 e1 s1 k1 e2 s2 k2 W (h1.kept hb) (h2.kept hb) (by obtain ⟨p0, p1, p2, p3, p4, p5, p6, p7, p8⟩ := h3; exact ⟨cell_below p0 hb, cell_below p1 hb, cell_below p2 hb, cell_below p3 hb, cell_below p4 hb, cell_below p5 hb, cell_below p6 hb, cell_below p7 hb, cell_below p8 hb⟩) (by obtain ⟨q0, q1, q2, q3, q4, q5, q6, q7, q8⟩ := h4; exact ⟨cell_below q0 hb, cell_below q1 hb, cell_below q2 hb, cell_below q3 hb, cell_below q4 hb, cell_below q5 hb, cell_below q6 hb, cell_below q7 hb, cell_below q8 hb⟩))
  clear h1 h2 h3 h4
  go_enter Tryz.func9, Tryz.ntmps9
  go_wp2
  refine wp_loop_rounds 1 ?_
  rw [rounds_succ]
  go_wp2_with fail
  refine (HD.out _ (by exact blBy)).mono ?_
  rintro e u2 ⟨rfl, hb9⟩
  have hB9 : Hid (Below w.heap.size w u2) := hid (bl_then (by exact blBy) hb9)
  clear hb9
  go_wp2
  go_ret
  exact ⟨rfl, hB9.out⟩
theorem rowS_len {w : World} {Z : Nat → Prop} {k n m c : Nat} {a : Option Addr} {fl : List Value} (h : RowS w Z k (.slice a m c) n fl) : m = n := by
  obtain ⟨_, _, e, _⟩ := h
  cases e
  rfl
theorem rowS_cells {w : World} {Z : Nat → Prop} {k n m c : Nat} {a : Option Addr} {fl : List Value} (h : RowS w Z k (.slice a m c) n fl) (hn : n ≠ 0) : ∃ b o, a = some ⟨b, o, none⟩ ∧ ∀ j u, fl[j]? = some u → w.cell? ⟨b, o + j, none⟩ = some u := by
  obtain ⟨_, _, e, hv⟩ := h
  cases e
  rcases hv.cells with ⟨h0, _⟩ | ⟨b, o, e, _, hc⟩
  · exact absurd h0 hn
  · exact ⟨b, o, e, hc⟩
theorem rowS_slice {w : World} {Z : Nat → Prop} {k n : Nat} {v : Value} {fl : List Value} (h : RowS w Z k v n fl) : ∃ a c, v = .slice a n c := by
  obtain ⟨a, c, e, _⟩ := h
  exact ⟨a, c, e⟩
theorem map_one {dvs : List DV} {d : MD} (e : dvs.map DV.d = [d]) : ∃ y, dvs = [y] ∧ y.d = d := by
  cases dvs with
  | nil => simp at e
  | cons y r =>
    cases r with
    | nil => simp at e; exact ⟨y, rfl, e⟩
    | cons z r => simp at e
/-- The lists of a file. -/
theorem fileR_len {w w' : World} {t : MT} {a1 : Option Addr} {n1 c1 : Nat} {a2 : Option Addr} {n2 c2 : Nat} (h : FileR w w' t (.slice a1 n1 c1) (.slice a2 n2 c2)) : n1 = t.imps.length ∧ n2 = t.decls.length := by
  obtain ⟨x, h1, h2, h3, ⟨_, ho, _, _, dvs, e, hd, _⟩⟩ := h
  rw [h2] at ho
  rw [h3] at hd
  have e1 := rowS_len ho
  have e2 := rowS_len hd
  rw [h1] at e1 e
  refine ⟨by rw [e1]; simp [toD], ?_⟩
  rw [e2]
  have := congrArg List.length e
  simpa [toD] using this
theorem fileA {w w' : World} {a1 : Option Addr} {n1 k1 : Nat} {a2 : Option Addr} {n2 k2 : Nat} (h : FileR w w' ⟨[], [dA1]⟩ (.slice a1 n1 k1) (.slice a2 n2 k2)) : n1 = 0 ∧ n2 = 1 ∧ ∃ e1 s1 b1 o1 c1 oa oc da dc ra rc ta tc, a2 = some ⟨e1, s1, none⟩ ∧ C15 w' b1 o1 fA1 ∧ (w'.cell? ⟨e1, s1, none⟩ = some (.bool false) ∧ w'.cell? ⟨e1, s1 + 1, none⟩ = some (.string (strOfNums [65])) ∧ w'.cell? ⟨e1, s1 + 2, none⟩ = some (.int .i64 1) ∧ w'.cell? ⟨e1, s1 + 3, none⟩ = some (.int .i64 9) ∧ w'.cell? ⟨e1, s1 + 4, none⟩ = some (.slice (some ⟨b1, o1, none⟩) 1 c1) ∧ w'.cell? ⟨e1, s1 + 5, none⟩ = some (.slice oa 0 oc) ∧ w'.cell? ⟨e1, s1 + 6, none⟩ = some (.slice da 0 dc) ∧ w'.cell? ⟨e1, s1 + 7, none⟩ = some (.slice ra 0 rc) ∧ w'.cell? ⟨e1, s1 + 8, none⟩ = some (.slice ta 0 tc)) := by
  obtain ⟨h1, h2⟩ := fileR_len h
  obtain ⟨x, g1, g2, g3, ⟨_, _, _, _, dvs, e, hd, hys⟩⟩ := h
  rw [g3] at hd
  rw [g1] at e
  obtain ⟨y, rfl, ed⟩ := map_one (d := dA1) e
  obtain ⟨yd, yf, yo, ydd, yr, ys⟩ := y
  dsimp only at ed
  subst ed
  obtain ⟨rf, ro, rr, rs, dv2, e2, rd, _⟩ := hys _ (List.mem_cons_self ..)
  obtain rfl : dv2 = [] := by
    have : dv2.map DV.d = [] := e2
    simpa using this
  obtain ⟨fa, c1, rfl⟩ : ∃ fa c1, yf = .slice fa 1 c1 := rowS_slice rf
  obtain ⟨oa, oc, rfl⟩ : ∃ oa oc, yo = .slice oa 0 oc := rowS_slice ro
  obtain ⟨da, dc, rfl⟩ : ∃ da dc, ydd = .slice da 0 dc := rowS_slice rd
  obtain ⟨ra, rc, rfl⟩ : ∃ ra rc, yr = .slice ra 0 rc := rowS_slice rr
  obtain ⟨ta, tc, rfl⟩ : ∃ ta tc, ys = .slice ta 0 tc := rowS_slice rs
  obtain ⟨e1, s1, rfl, hc⟩ := rowS_cells hd (by simp)
  obtain ⟨b1, o1, rfl, hf⟩ := rowS_cells rf (by simp [dA1])
  exact ⟨h1, h2, e1, s1, b1, o1, c1, oa, oc, da, dc, ra, rc, ta, tc, rfl, ⟨hf 0 _ rfl, hf 1 _ rfl, hf 2 _ rfl, hf 3 _ rfl, hf 4 _ rfl, hf 5 _ rfl, hf 6 _ rfl, hf 7 _ rfl, hf 8 _ rfl, hf 9 _ rfl, hf 10 _ rfl, hf 11 _ rfl, hf 12 _ rfl, hf 13 _ rfl, hf 14 _ rfl⟩, hc 0 _ rfl, hc 1 _ rfl, hc 2 _ rfl, hc 3 _ rfl, hc 4 _ rfl, hc 5 _ rfl, hc 6 _ rfl, hc 7 _ rfl, hc 8 _ rfl⟩
theorem c15_of {W : World} {b : Nat} {t : TypeId} {cs : Array Value} {f : MF} (h : Blk W b t cs) (e : cs = (cF f).toArray) : C15 W b 0 f := by
  subst e
  exact ⟨h.cellF 0, h.cellF 1, h.cellF 2, h.cellF 3, h.cellF 4, h.cellF 5, h.cellF 6, h.cellF 7, h.cellF 8, h.cellF 9, h.cellF 10, h.cellF 11, h.cellF 12, h.cellF 13, h.cellF 14⟩
theorem c9_of {W : World} {b : Nat} {t : TypeId} {cs : Array Value} {y0 y1 y2 y3 y4 y5 y6 y7 y8 : Value} (h : Blk W b t cs) (e : cs = #[y0, y1, y2, y3, y4, y5, y6, y7, y8]) : W.cell? ⟨b, 0, none⟩ = some y0 ∧ W.cell? ⟨b, 0 + 1, none⟩ = some y1 ∧ W.cell? ⟨b, 0 + 2, none⟩ = some y2 ∧ W.cell? ⟨b, 0 + 3, none⟩ = some y3 ∧ W.cell? ⟨b, 0 + 4, none⟩ = some y4 ∧ W.cell? ⟨b, 0 + 5, none⟩ = some y5 ∧ W.cell? ⟨b, 0 + 6, none⟩ = some y6 ∧ W.cell? ⟨b, 0 + 7, none⟩ = some y7 ∧ W.cell? ⟨b, 0 + 8, none⟩ = some y8 := by
  subst e
  exact ⟨h.cellF 0, h.cellF 1, h.cellF 2, h.cellF 3, h.cellF 4, h.cellF 5, h.cellF 6, h.cellF 7, h.cellF 8⟩
theorem awake5 (w : World) (hs : Sentinel w 3) : Calls Tryz.prog 8 #[] w fun e w' => e = .returned (.bool true) ∧ Below w.heap.size w w' := by
  have HP := hid (parseIn txA w (by decide) (by decide) hs)
  rw [evA] at HP
  clear hs
  go_enter Tryz.func8, Tryz.ntmps8
  go_wp2_with fail
  refine HP.out.mono ?_
  rintro e w1 ⟨a1, n1, k1, a2, n2, k2, rfl, hb1, hF⟩
  obtain ⟨rfl, rfl, e1, s1, b1, o1, c1, oa, oc, da, dc, ra, rc, ta, tc, rfl, hc, hr⟩ := fileA hF.out
  have HB1 := hid hb1
  have HC := hid hc
  have HR := hid hr
  clear hb1 hF HP hc hr
  go_wp2_with fail
  refine (sameOne fA1 false [65] 1 9 b1 o1 c1 (w1.heap.size + 1 + 1 + 1) 0 1 oa da ra ta none none none none oc dc rc tc 0 0 0 0 e1 s1 k2 (w1.heap.size + 1 + 1 + 1 + 1) 0 1 a1 none k1 0 _ ?_ ?_ ?_ ?_).mono ?_
  · exact HC.out.kept (by exact blBy)
  · exact c15_of (f := fA1) (Blk.kept (Blk.newAt (by simp)) (below_alloc _)) rfl
  · obtain ⟨p0, p1, p2, p3, p4, p5, p6, p7, p8⟩ := HR.out
    exact ⟨cell_below p0 (by exact blBy), cell_below p1 (by exact blBy), cell_below p2 (by exact blBy), cell_below p3 (by exact blBy), cell_below p4 (by exact blBy), cell_below p5 (by exact blBy), cell_below p6 (by exact blBy), cell_below p7 (by exact blBy), cell_below p8 (by exact blBy)⟩
  · exact c9_of (Blk.newAt (by simp)) rfl
  rintro e u2 ⟨rfl, hb9⟩
  have HB9 : Hid (Below w.heap.size w u2) := hid (bl_then (by have := HB1.out; exact blBy) hb9)
  clear hb9
  go_wp2
  go_ret
  exact ⟨rfl, HB9.out⟩
set_option maxHeartbeats 1500000
theorem rowAt {α : Type} {g : α → List Value} {K : Nat} (hK : ∀ x, (g x).length = K) {w : World} {Z : Nat → Prop} {l : List α} {a : Option Addr} {n c : Nat} (h : RowS w Z K (.slice a n c) l.length (l.flatMap g)) {i : Nat} {x : α} (hx : l[i]? = some x) : ∃ b o, a = some ⟨b, o, none⟩ ∧ ∀ j u, (g x)[j]? = some u → w.cell? ⟨b, o + i * K + j, none⟩ = some u := by
  obtain ⟨_, _, e, hv⟩ := h
  cases e
  rcases hv.cells with ⟨h0, _⟩ | ⟨b, o, e, _, hc⟩
  · have := (List.getElem?_eq_some_iff.1 hx).1
    omega
  · refine ⟨b, o, e, fun j u hu => ?_⟩
    rw [Nat.add_assoc]
    exact hc _ _ (flatM_get hK l i j x u hx hu)
theorem rowS_sl {w : World} {Z : Nat → Prop} {k n : Nat} {v : Value} {fl : List Value} (h : RowS w Z k v n fl) : ∃ a c, v = .slice a n c ∧ n ≤ 9223372036854775807 := by
  obtain ⟨a, c, e, hv⟩ := h
  exact ⟨a, c, e, Nat.le_trans hv.le hv.max⟩
theorem RowS.kept {w w' : World} {Z : Nat → Prop} {k n : Nat} {v : Value} {fl : List Value} (h : RowS w Z k v n fl) (hb : Below w.heap.size w w') : RowS w' Z k v n fl := h.keep (f := fun _ => True) (Keep.ofBelow hb) (fun _ _ => trivial)
theorem RD.kept {n : Nat} {w w' : World} {Z : Nat → Prop} {x : DV} (h : RD n w Z x) (hb : Below w.heap.size w w') : RD n w' Z x := RD.keep (f := fun _ => True) (Keep.ofBelow hb) (fun _ _ => trivial) n x h
def DeclsY (n : Nat) : Prop := ∀ (xs ys : List DV) (a1 : Option Addr) (c1 : Nat) (a2 : Option Addr) (c2 : Nat) (W : World) (Z1 Z2 : Nat → Prop), xs.map DV.d = ys.map DV.d → RowS W Z1 9 (.slice a1 xs.length c1) xs.length (xs.flatMap cD) → RowS W Z2 9 (.slice a2 ys.length c2) ys.length (ys.flatMap cD) → (∀ x ∈ xs, RD n W Z1 x) → (∀ y ∈ ys, RD n W Z2 y) →
  Calls Tryz.prog 24 #[.slice a1 xs.length c1, .slice a2 ys.length c2] W fun e w' => e = .returned (.bool true) ∧ Below W.heap.size W w'
def DeclY (n : Nat) : Prop := ∀ (x y : DV) (W : World) (Z1 Z2 : Nat → Prop), x.d = y.d → RD n W Z1 x → RD n W Z2 y → Calls Tryz.prog 48 #[.agg #[.bool x.d.enum, .string (strOfNums x.d.name), .int .i64 x.d.at1.1, .int .i64 x.d.at1.2, x.f, x.o, x.dd, x.r, x.s], .agg #[.bool y.d.enum, .string (strOfNums y.d.name), .int .i64 y.d.at1.1, .int .i64 y.d.at1.2, y.f, y.o, y.dd, y.r, y.s]] W fun e w' => e = .returned (.bool true) ∧ Below W.heap.size W w'
theorem DV.agg_slices {n : Nat} {W : World} {Z : Nat → Prop} {x : DV} (h : RD n W Z x) : ∃ xd fa fc oa oc da dn dc ra rc ta tc, x = ⟨xd, .slice fa xd.fields.length fc, .slice oa xd.oneofs.length oc, .slice da dn dc, .slice ra xd.res.length rc, .slice ta xd.syms.length tc⟩ := by
  cases n with
  | zero => exact h.elim
  | succ n =>
    obtain ⟨xd, xf, xo, xdd, xr, xs⟩ := x
    obtain ⟨⟨fa, fc, e1, _⟩, ⟨oa, oc, e2, _⟩, ⟨ra, rc, e3, _⟩, ⟨ta, tc, e4, _⟩, dv, _, ⟨da, dc, e5, _⟩, _⟩ := h
    dsimp only at e1 e2 e3 e4 e5
    subst e1 e2 e3 e4 e5
    exact ⟨xd, fa, fc, oa, oc, da, _, dc, ra, rc, ta, tc, rfl⟩
theorem declsY_of {n : Nat} (HD : DeclY n) : DeclsY n := by
  intro xs ys a1 c1 a2 c2 w Z1 Z2 he h1 h2 g1 g2
  have hl : ys.length = xs.length := by have := congrArg List.length he; simpa using this.symm
  rw [hl] at h2 ⊢
  have hmx : xs.length ≤ 9223372036854775807 := (rowS_sl h1).choose_spec.choose_spec.2
  have H1 := hid h1
  have H2 := hid (show RowS w Z2 9 (.slice a2 xs.length c2) ys.length (ys.flatMap cD) by rw [hl]; exact h2)
  have G1 := hid g1
  have G2 := hid g2
  have HE := hid he
  have HL := hid hl
  have HDD := hid HD
  clear h1 h2 g1 g2 he hl HD
  generalize hN : xs.length = N at *
  replace hN := hid hN
  go_enter Tryz.func24, Tryz.ntmps24
  go_wp2
  go_loopw [5] (fun r wr => ∃ k : Nat, k ≤ N ∧ r = .int .i64 k ∧ Hid (Below w.heap.size w wr)) (fun r _ => N - (intOf r).toNat)
  case atStart => exact ⟨0, by omega, rfl, hid (Below.refl _ _)⟩
  case round =>
    obtain ⟨k, hk, rfl, hbw⟩ := hrel
    by_cases hlt : k < N
    · obtain ⟨x, hx⟩ : ∃ x, xs[k]? = some x := ⟨_, List.getElem?_eq_getElem (by rw [hN.out]; exact hlt)⟩
      obtain ⟨y, hy⟩ : ∃ y, ys[k]? = some y := ⟨_, List.getElem?_eq_getElem (by rw [HL.out]; exact hlt)⟩
      have hxy : x.d = y.d := by
        have := congrArg (fun l => l[k]?) HE.out
        simp only [List.getElem?_map, hx, hy, Option.map_some] at this
        exact Option.some.inj this
      have RX := (G1.out x (List.mem_of_getElem? hx)).kept hbw.out
      have RY := (G2.out y (List.mem_of_getElem? hy)).kept hbw.out
      obtain ⟨b1, o1, rfl, q1⟩ := rowAt cD_len (RowS.kept (show RowS w Z1 9 (.slice a1 N c1) xs.length (xs.flatMap cD) by rw [hN.out]; exact H1.out) hbw.out) hx
      obtain ⟨b2, o2, rfl, q2⟩ := rowAt cD_len (RowS.kept H2.out hbw.out) hy
      have HC := hid (fun W (hb : Below wr.heap.size wr W) => HDD.out x y W Z1 Z2 hxy (RX.kept hb) (RY.kept hb))
      obtain ⟨xd, fa1, fc1, oa1, oc1, da1, dn1, dc1, ra1, rc1, ta1, tc1, rfl⟩ := DV.agg_slices RX
      obtain ⟨yd, fa2, fc2, oa2, oc2, da2, dn2, dc2, ra2, rc2, ta2, tc2, rfl⟩ := DV.agg_slices RY
      dsimp only at hxy
      subst hxy
      clear RX RY hx hy
      have P1 : Hid (wr.cell? ⟨b1, o1 + k * 9, none⟩ = some (.bool xd.enum) ∧ wr.cell? ⟨b1, o1 + k * 9 + 1, none⟩ = some (.string (strOfNums xd.name)) ∧ wr.cell? ⟨b1, o1 + k * 9 + 2, none⟩ = some (.int .i64 xd.at1.1) ∧ wr.cell? ⟨b1, o1 + k * 9 + 3, none⟩ = some (.int .i64 xd.at1.2) ∧ wr.cell? ⟨b1, o1 + k * 9 + 4, none⟩ = some (.slice fa1 xd.fields.length fc1) ∧ wr.cell? ⟨b1, o1 + k * 9 + 5, none⟩ = some (.slice oa1 xd.oneofs.length oc1) ∧ wr.cell? ⟨b1, o1 + k * 9 + 6, none⟩ = some (.slice da1 dn1 dc1) ∧ wr.cell? ⟨b1, o1 + k * 9 + 7, none⟩ = some (.slice ra1 xd.res.length rc1) ∧ wr.cell? ⟨b1, o1 + k * 9 + 8, none⟩ = some (.slice ta1 xd.syms.length tc1)) := hid ⟨q1 0 _ rfl, q1 1 _ rfl, q1 2 _ rfl, q1 3 _ rfl, q1 4 _ rfl, q1 5 _ rfl, q1 6 _ rfl, q1 7 _ rfl, q1 8 _ rfl⟩
      have P2 : Hid (wr.cell? ⟨b2, o2 + k * 9, none⟩ = some (.bool xd.enum) ∧ wr.cell? ⟨b2, o2 + k * 9 + 1, none⟩ = some (.string (strOfNums xd.name)) ∧ wr.cell? ⟨b2, o2 + k * 9 + 2, none⟩ = some (.int .i64 xd.at1.1) ∧ wr.cell? ⟨b2, o2 + k * 9 + 3, none⟩ = some (.int .i64 xd.at1.2) ∧ wr.cell? ⟨b2, o2 + k * 9 + 4, none⟩ = some (.slice fa2 xd.fields.length fc2) ∧ wr.cell? ⟨b2, o2 + k * 9 + 5, none⟩ = some (.slice oa2 xd.oneofs.length oc2) ∧ wr.cell? ⟨b2, o2 + k * 9 + 6, none⟩ = some (.slice da2 dn2 dc2) ∧ wr.cell? ⟨b2, o2 + k * 9 + 7, none⟩ = some (.slice ra2 xd.res.length rc2) ∧ wr.cell? ⟨b2, o2 + k * 9 + 8, none⟩ = some (.slice ta2 xd.syms.length tc2)) := hid ⟨q2 0 _ rfl, q2 1 _ rfl, q2 2 _ rfl, q2 3 _ rfl, q2 4 _ rfl, q2 5 _ rfl, q2 6 _ rfl, q2 7 _ rfl, q2 8 _ rfl⟩
      clear q1 q2
      have hki : (k : Int) < (N : Int) := by omega
      have hk0 : (0 : Int) ≤ (k : Int) := by omega
      go_wp2_with fail
      go_region_held3 (fun W => (W.cell? ⟨b1, o1 + k * 9, none⟩ = some (.bool xd.enum) ∧ W.cell? ⟨b1, o1 + k * 9 + 1, none⟩ = some (.string (strOfNums xd.name)) ∧ W.cell? ⟨b1, o1 + k * 9 + 2, none⟩ = some (.int .i64 xd.at1.1) ∧ W.cell? ⟨b1, o1 + k * 9 + 3, none⟩ = some (.int .i64 xd.at1.2) ∧ W.cell? ⟨b1, o1 + k * 9 + 4, none⟩ = some (.slice fa1 xd.fields.length fc1) ∧ W.cell? ⟨b1, o1 + k * 9 + 5, none⟩ = some (.slice oa1 xd.oneofs.length oc1) ∧ W.cell? ⟨b1, o1 + k * 9 + 6, none⟩ = some (.slice da1 dn1 dc1) ∧ W.cell? ⟨b1, o1 + k * 9 + 7, none⟩ = some (.slice ra1 xd.res.length rc1) ∧ W.cell? ⟨b1, o1 + k * 9 + 8, none⟩ = some (.slice ta1 xd.syms.length tc1)) ∧ (W.cell? ⟨b2, o2 + k * 9, none⟩ = some (.bool xd.enum) ∧ W.cell? ⟨b2, o2 + k * 9 + 1, none⟩ = some (.string (strOfNums xd.name)) ∧ W.cell? ⟨b2, o2 + k * 9 + 2, none⟩ = some (.int .i64 xd.at1.1) ∧ W.cell? ⟨b2, o2 + k * 9 + 3, none⟩ = some (.int .i64 xd.at1.2) ∧ W.cell? ⟨b2, o2 + k * 9 + 4, none⟩ = some (.slice fa2 xd.fields.length fc2) ∧ W.cell? ⟨b2, o2 + k * 9 + 5, none⟩ = some (.slice oa2 xd.oneofs.length oc2) ∧ W.cell? ⟨b2, o2 + k * 9 + 6, none⟩ = some (.slice da2 dn2 dc2) ∧ W.cell? ⟨b2, o2 + k * 9 + 7, none⟩ = some (.slice ra2 xd.res.length rc2) ∧ W.cell? ⟨b2, o2 + k * 9 + 8, none⟩ = some (.slice ta2 xd.syms.length tc2))) (first | exact ⟨E1.out, E2.out⟩ | exact ⟨P1.out, P2.out⟩) (first | (go_at_call 48; refine (HC.out _ (below_drew1 _)).mono ?_; rintro e u1 ⟨rfl, hbu⟩; have hbz := bl_then (below_drew1 wr) hbu; have E1 : Hid (u1.cell? ⟨b1, o1 + k * 9, none⟩ = some (.bool xd.enum) ∧ u1.cell? ⟨b1, o1 + k * 9 + 1, none⟩ = some (.string (strOfNums xd.name)) ∧ u1.cell? ⟨b1, o1 + k * 9 + 2, none⟩ = some (.int .i64 xd.at1.1) ∧ u1.cell? ⟨b1, o1 + k * 9 + 3, none⟩ = some (.int .i64 xd.at1.2) ∧ u1.cell? ⟨b1, o1 + k * 9 + 4, none⟩ = some (.slice fa1 xd.fields.length fc1) ∧ u1.cell? ⟨b1, o1 + k * 9 + 5, none⟩ = some (.slice oa1 xd.oneofs.length oc1) ∧ u1.cell? ⟨b1, o1 + k * 9 + 6, none⟩ = some (.slice da1 dn1 dc1) ∧ u1.cell? ⟨b1, o1 + k * 9 + 7, none⟩ = some (.slice ra1 xd.res.length rc1) ∧ u1.cell? ⟨b1, o1 + k * 9 + 8, none⟩ = some (.slice ta1 xd.syms.length tc1)) := hid (by obtain ⟨p0, p1, p2, p3, p4, p5, p6, p7, p8⟩ := P1.out; exact ⟨cell_below p0 hbz, cell_below p1 hbz, cell_below p2 hbz, cell_below p3 hbz, cell_below p4 hbz, cell_below p5 hbz, cell_below p6 hbz, cell_below p7 hbz, cell_below p8 hbz⟩); have E2 : Hid (u1.cell? ⟨b2, o2 + k * 9, none⟩ = some (.bool xd.enum) ∧ u1.cell? ⟨b2, o2 + k * 9 + 1, none⟩ = some (.string (strOfNums xd.name)) ∧ u1.cell? ⟨b2, o2 + k * 9 + 2, none⟩ = some (.int .i64 xd.at1.1) ∧ u1.cell? ⟨b2, o2 + k * 9 + 3, none⟩ = some (.int .i64 xd.at1.2) ∧ u1.cell? ⟨b2, o2 + k * 9 + 4, none⟩ = some (.slice fa2 xd.fields.length fc2) ∧ u1.cell? ⟨b2, o2 + k * 9 + 5, none⟩ = some (.slice oa2 xd.oneofs.length oc2) ∧ u1.cell? ⟨b2, o2 + k * 9 + 6, none⟩ = some (.slice da2 dn2 dc2) ∧ u1.cell? ⟨b2, o2 + k * 9 + 7, none⟩ = some (.slice ra2 xd.res.length rc2) ∧ u1.cell? ⟨b2, o2 + k * 9 + 8, none⟩ = some (.slice ta2 xd.syms.length tc2)) := hid (by obtain ⟨p0, p1, p2, p3, p4, p5, p6, p7, p8⟩ := P2.out; exact ⟨cell_below p0 hbz, cell_below p1 hbz, cell_below p2 hbz, cell_below p3 hbz, cell_below p4 hbz, cell_below p5 hbz, cell_below p6 hbz, cell_below p7 hbz, cell_below p8 hbz⟩); have hbb : Hid (Below w.heap.size w u1) := hid (below_trans hbw.out hbz); clear hbu hbz))
      go_wp2
      exact ⟨⟨k + 1, by omega, by go_num, hbb⟩, by simp [intOf]; omega⟩
    · go_wp2
      go_ret
      exact ⟨rfl, hbw.out⟩
end Go.Proofs.YtidimdbnnnpplaaGreatDoor
