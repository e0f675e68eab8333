/-
  The examples' block.
  The law's own first question.
  PlanValid's walk.
  What comes in, opened: strings; and what the bound on it says.
  A table that comes in, opened.
  A table that comes in, opened: fields, symbols, ranges, types.
  The variables of Go's library that the rows list: a world that lays them; the one that is named alone.
  What comes in, opened, with what it weighs.
  A program that comes in, opened, whatever its size.
-/
import Derived.Test.YtdhkbdngmejklaaGreatDoorCTX
import Derived.Test.YtdhkbdngmejklaaGreatDoorCKO
import Derived.Test.YtdhkbdngmejklaaGreatDoorCVP13
import Derived.Deep.RegionHeld3
import Derived.ProofKit
import Derived.OpenShut
import Derived.ShutString
import Derived.Lib.SmallJoins
import Derived.Deep.Slices
import Derived.Deep.Fields
import Derived.Test.YtdhkbdngmejklaaGreatDoorRows
import Derived.Stop.LaidErr
import Derived.Deep.DeepHandedRow
import Derived.Deep.DeepWitnessRowRef
import Derived.LaidLaws
import Derived.SizedLaws
import Derived.Test.YtdhkbdngmejklaaGreatDoorCVD7
namespace Go.Proofs.YtdhkbdngmejklaaGreatDoor
open Go.RowKit
set_option maxRecDepth 1000000
set_option linter.unusedVariables false
set_option linter.unusedSimpArgs false
set_option maxHeartbeats 1000000
def simBK : BK := ⟨decL simF, encL simF, []⟩
theorem simD : (#[.int .i64 1, .int .i64 0, .int .i64 0, .int .i64 0, .int .i64 0, .int .i64 2, .int .i64 8, .int .i64 5, .int .i64 0, .int .i64 0, .int .i64 5, .int .i64 2, .int .i64 0, .int .i64 0, .int .i64 0, .int .i64 7, .int .i64 1, .int .i64 0, .int .i64 0, .int .i64 0, .int .i64 4, .int .i64 0, .int .i64 0, .int .i64 0, .int .i64 0, .int .i64 2, .int .i64 16, .int .i64 9, .int .i64 0, .int .i64 0, .int .i64 5, .int .i64 4, .int .i64 0, .int .i64 0, .int .i64 0, .int .i64 8, .int .i64 2, .int .i64 0, .int .i64 0, .int .i64 0, .int .i64 4, .int .i64 0, .int .i64 0, .int .i64 0, .int .i64 0, .int .i64 2, .int .i64 18, .int .i64 12, .int .i64 0, .int .i64 0, .int .i64 11, .int .i64 2, .int .i64 4, .int .i64 0, .int .i64 0, .int .i64 4, .int .i64 0, .int .i64 0, .int .i64 0, .int .i64 0, .int .i64 2, .int .i64 26, .int .i64 15, .int .i64 0, .int .i64 0, .int .i64 10, .int .i64 3, .int .i64 1, .int .i64 0, .int .i64 0, .int .i64 4, .int .i64 0, .int .i64 0, .int .i64 0, .int .i64 0, .int .i64 13, .int .i64 0, .int .i64 0, .int .i64 0, .int .i64 0, .int .i64 4, .int .i64 0, .int .i64 0, .int .i64 0, .int .i64 0] : Array Value) = (simBK.dec.flatMap cIN).toArray := by kernel_rfl
theorem simE' : (#[.int .i64 16, .int .i64 1, .int .i64 3, .int .i64 2, .int .i64 0, .int .i64 17, .int .i64 8, .int .i64 0, .int .i64 0, .int .i64 0, .int .i64 18, .int .i64 2, .int .i64 0, .int .i64 0, .int .i64 0, .int .i64 16, .int .i64 2, .int .i64 5, .int .i64 0, .int .i64 0, .int .i64 21, .int .i64 18, .int .i64 4, .int .i64 0, .int .i64 0, .int .i64 16, .int .i64 3, .int .i64 8, .int .i64 0, .int .i64 0, .int .i64 17, .int .i64 26, .int .i64 0, .int .i64 0, .int .i64 0, .int .i64 19, .int .i64 1, .int .i64 0, .int .i64 0, .int .i64 0, .int .i64 23, .int .i64 0, .int .i64 0, .int .i64 0, .int .i64 0, .int .i64 24, .int .i64 0, .int .i64 0, .int .i64 0, .int .i64 0] : Array Value) = (simBK.enc.flatMap cIN).toArray := by kernel_rfl
theorem simDl : simBK.dec.length = 17 := by kernel_rfl
theorem simEl : simBK.enc.length = 10 := by kernel_rfl
def LwA (w : World) (e : Ending) (w' : World) : Prop := ∃ da ea, e = .returned (.agg #[.slice da simBK.dec.length 17, .slice ea simBK.enc.length 10, .slice none simBK.rows.length 0]) ∧ BkR w' simBK (.slice da simBK.dec.length 17) (.slice ea simBK.enc.length 10) (.slice none simBK.rows.length 0) ∧ Below w.heap.size w w'
theorem LwA.mk {w w' : World} {h1 h2 : Nat} (B1 : Blk w' h1 63 #[.int .i64 1, .int .i64 0, .int .i64 0, .int .i64 0, .int .i64 0, .int .i64 2, .int .i64 8, .int .i64 5, .int .i64 0, .int .i64 0, .int .i64 5, .int .i64 2, .int .i64 0, .int .i64 0, .int .i64 0, .int .i64 7, .int .i64 1, .int .i64 0, .int .i64 0, .int .i64 0, .int .i64 4, .int .i64 0, .int .i64 0, .int .i64 0, .int .i64 0, .int .i64 2, .int .i64 16, .int .i64 9, .int .i64 0, .int .i64 0, .int .i64 5, .int .i64 4, .int .i64 0, .int .i64 0, .int .i64 0, .int .i64 8, .int .i64 2, .int .i64 0, .int .i64 0, .int .i64 0, .int .i64 4, .int .i64 0, .int .i64 0, .int .i64 0, .int .i64 0, .int .i64 2, .int .i64 18, .int .i64 12, .int .i64 0, .int .i64 0, .int .i64 11, .int .i64 2, .int .i64 4, .int .i64 0, .int .i64 0, .int .i64 4, .int .i64 0, .int .i64 0, .int .i64 0, .int .i64 0, .int .i64 2, .int .i64 26, .int .i64 15, .int .i64 0, .int .i64 0, .int .i64 10, .int .i64 3, .int .i64 1, .int .i64 0, .int .i64 0, .int .i64 4, .int .i64 0, .int .i64 0, .int .i64 0, .int .i64 0, .int .i64 13, .int .i64 0, .int .i64 0, .int .i64 0, .int .i64 0, .int .i64 4, .int .i64 0, .int .i64 0, .int .i64 0, .int .i64 0]) (B2 : Blk w' h2 63 #[.int .i64 16, .int .i64 1, .int .i64 3, .int .i64 2, .int .i64 0, .int .i64 17, .int .i64 8, .int .i64 0, .int .i64 0, .int .i64 0, .int .i64 18, .int .i64 2, .int .i64 0, .int .i64 0, .int .i64 0, .int .i64 16, .int .i64 2, .int .i64 5, .int .i64 0, .int .i64 0, .int .i64 21, .int .i64 18, .int .i64 4, .int .i64 0, .int .i64 0, .int .i64 16, .int .i64 3, .int .i64 8, .int .i64 0, .int .i64 0, .int .i64 17, .int .i64 26, .int .i64 0, .int .i64 0, .int .i64 0, .int .i64 19, .int .i64 1, .int .i64 0, .int .i64 0, .int .i64 0, .int .i64 23, .int .i64 0, .int .i64 0, .int .i64 0, .int .i64 0, .int .i64 24, .int .i64 0, .int .i64 0, .int .i64 0, .int .i64 0]) (hb : Below w.heap.size w w') : LwA w (.returned (.agg #[.slice (some ⟨h1, 0, none⟩) 17 17, .slice (some ⟨h2, 0, none⟩) 10 10, .slice none 0 0])) w' := by
  refine ⟨some ⟨h1, 0, none⟩, some ⟨h2, 0, none⟩, by rw [simDl, simEl]; rfl, ⟨?_, ?_, rowS_nil _ _ _⟩, hb⟩
  · rw [simDl]
    exact rowOf' B1 5 17 _ simD (by rw [flatM_len (g := cIN) (k := 5) (fun _ => rfl), simDl]) (by decide)
  · rw [simEl]
    exact rowOf' B2 5 10 _ simE' (by rw [flatM_len (g := cIN) (k := 5) (fun _ => rfl), simEl]) (by decide)
theorem loweredW (w : World) : Calls Tryz.prog 12 #[] w (LwA w) := by
  go_enter Tryz.func12, Tryz.ntmps12
  go_wp2
  refine bodyPost_ret (v := .agg #[.slice (some ⟨w.heap.size + 1, 0, none⟩) 17 17, .slice (some ⟨w.heap.size + 1 + 1, 0, none⟩) 10 10, .slice none 0 0]) (by simp [results, Tryz.results12, go_sem]) rfl ?_
  refine LwA.mk ?_ ?_ (by exact blBy)
  · exact (Blk.newAt (by simp)).kept (below_alloc _)
  · exact Blk.newAt (by simp)
end Go.Proofs.YtdhkbdngmejklaaGreatDoor
namespace Go.Proofs.YtdhkbdngmejklaaGreatDoor
open Go.RowKit
set_option maxRecDepth 1000000
set_option linter.unusedVariables false
set_option linter.unusedSimpArgs false
set_option maxHeartbeats 1000000
/-- The law's own first question. -/
theorem awakeW (w : World) (m : Int) (hm : w.cell? ⟨0, 0, none⟩ = some (.int .i64 m)) : Calls Tryz.prog 4 #[] w fun e w' => e = .returned (.bool true) ∧ Below w.heap.size w w' := by
  have HL : Hid (∀ W W' : World, Below w.heap.size w W → TbR W' (.slice (some ⟨W.heap.size + 1 + 1 + 1, 0, none⟩) (simL W.heap.size).length 2) (simL W.heap.size) → Below w.heap.size w W' → Calls Tryz.prog 9 #[.agg #[.slice (some ⟨W.heap.size + 1 + 1 + 1, 0, none⟩) (simL W.heap.size).length 2], .int .i64 1] W' (LowA W' simBK 0)) := hid fun W W' hW ht hW' => by
    have := lowerTypeT W' (simL W.heap.size) _ 2 ht (simOk _) m (cell_below hm hW') 1
    rw [lowE_ok ⟨simGood _, by decide, by show (1 : Int) < 2; decide⟩] at this
    have e : lowBK (simL W.heap.size) 1 = simBK := lowBK_at (k := 1) (simGood _) (show 1 < 2 by decide)
    rw [e] at this
    exact this
  go_enter Tryz.func4, Tryz.ntmps4
  go_wp2_with fail
  refine (simpleW _).mono ?_
  rintro e w1 ⟨rfl, ht, hb1⟩
  have HT := hid ht
  replace hb1 := hid hb1
  clear ht
  go_wp2_with fail
  refine (HL.out w w1 (Below.refl _ _) HT.out hb1.out).mono ?_
  rintro e w2 ⟨da, dc, ea, ec, ra, rc, rfl, ho, hb2⟩
  replace ho := hid ho.row
  replace hb2 : Hid (Below w.heap.size w w2) := hid (bl_then hb1.out hb2)
  clear HL HT hb1
  go_wp2_with fail
  have Bb : Hid (Blk (w2.alloc (.cells #[.slice da simBK.dec.length dc, .slice ea simBK.enc.length ec, .slice ra simBK.rows.length rc] 31)) w2.heap.size 31 #[.slice da simBK.dec.length dc, .slice ea simBK.enc.length ec, .slice ra simBK.rows.length rc]) := hid (Blk.new _ _ _)
  replace hb2 : Hid (Below w.heap.size w (w2.alloc (.cells #[.slice da simBK.dec.length dc, .slice ea simBK.enc.length ec, .slice ra simBK.rows.length rc] 31))) := hid (by have := hb2.out; exact blBy)
  replace ho : Hid (BkR (w2.alloc (.cells #[.slice da simBK.dec.length dc, .slice ea simBK.enc.length ec, .slice ra simBK.rows.length rc] 31)) simBK (.slice da simBK.dec.length dc) (.slice ea simBK.enc.length ec) (.slice ra simBK.rows.length rc)) := hid (ho.out.kept (below_alloc _))
  generalize w2.alloc (.cells #[.slice da simBK.dec.length dc, .slice ea simBK.enc.length ec, .slice ra simBK.rows.length rc] 31) = W at *
  generalize w2.heap.size = q at *
  have e0 := Bb.out.cell 0 _ rfl
  have e1 := Bb.out.cell 1 _ rfl
  have e2 := Bb.out.cell 2 _ rfl
  simp only [List.getElem_toArray, List.getElem_cons_succ, List.getElem_cons_zero] at e0 e1 e2
  go_region_held3 (fun W => W.cell? ⟨q, 0, none⟩ = some (.slice da simBK.dec.length dc) ∧ W.cell? ⟨q, 1, none⟩ = some (.slice ea simBK.enc.length ec) ∧ W.cell? ⟨q, 2, none⟩ = some (.slice ra simBK.rows.length rc)) (first | exact ⟨e0, e1, e2⟩) (first | (go_at_call 12; refine (loweredW _).mono ?_; rintro e w3 ⟨pa, qa, rfl, hl, hbx⟩; replace e0 := cell_below e0 (below_trans (by first | exact Below.refl _ _ | exact below_drew1 _ | exact below_drewN _ _) hbx); replace e1 := cell_below e1 (below_trans (by first | exact Below.refl _ _ | exact below_drew1 _ | exact below_drewN _ _) hbx); replace e2 := cell_below e2 (below_trans (by first | exact Below.refl _ _ | exact below_drew1 _ | exact below_drewN _ _) hbx); replace ho := hid (ho.out.kept (below_trans (by first | exact Below.refl _ _ | exact below_drew1 _ | exact below_drewN _ _) hbx)); replace hb2 := hid (below_trans hb2.out (below_trans (by first | exact Below.refl _ _ | exact below_drew1 _ | exact below_drewN _ _) hbx)); have HLW := hid hl; clear hl hbx) | (go_at_call 11; refine (sameBlockD _ simBK simBK _ _ _ _ _ _ _ _ _ _ _ _ ho.out HLW.out).mono ?_; rintro e w4 ⟨r, rfl, hr, hbx⟩; obtain rfl : r = true := hr.2 rfl; replace e0 := cell_below e0 hbx; replace e1 := cell_below e1 hbx; replace e2 := cell_below e2 hbx; replace hb2 := hid (below_trans hb2.out hbx); clear hr hbx))
  all_goals
    go_wp2
    go_ret
    exact ⟨rfl, hb2.out⟩
end Go.Proofs.YtdhkbdngmejklaaGreatDoor
namespace Go.Proofs.YtdhkbdngmejklaaGreatDoor
open Go.RowKit
set_option maxRecDepth 1000000
set_option linter.unusedVariables false
set_option linter.unusedSimpArgs false
set_option maxHeartbeats 4000000
theorem planValidW (w : World) (xs ys : List BV) (xa ya : Option Addr) (xc yc : Nat) (hx : PgR w (.slice xa xs.length xc) xs) (hy : PgR w (.slice ya ys.length yc) ys) (hz : ∀ x ∈ xs, x.k.dec.length ≤ 140737488355328 ∧ x.k.enc.length ≤ 140737488355328) (hI : ∀ x ∈ xs, IB x) (m : Int) (hm : w.cell? ⟨0, 0, none⟩ = some (.int .i64 m)) : Calls Tryz.prog 3 #[.agg #[.slice xa xs.length xc], .agg #[.slice ya ys.length yc]] w fun e w' => e = .returned (.bool true) ∧ Below w.heap.size w w' := by
  obtain ⟨r1, hr1⟩ := exB (VdP xs)
  obtain ⟨r2, hr2⟩ := exB (xs.map BV.k = ys.map BV.k)
  have HAW : Hid (∀ V, Below w.heap.size w V → Calls Tryz.prog 4 #[] V fun e w' => e = .returned (.bool true) ∧ Below V.heap.size V w') := hid fun V hV => awakeW V m (cell_below hm hV)
  have HV : Hid (∀ V, Below w.heap.size w V → Calls Tryz.prog 5 #[.agg #[.slice xa xs.length xc]] V fun e w' => e = .returned (.bool r1) ∧ Below V.heap.size V w') := hid fun V hV => (validB V xs xa xc (hx.kept hV) hz hI).mono fun e w' h => h.is hr1
  have HW : Hid (∀ V, Below w.heap.size w V → Calls Tryz.prog 6 #[.agg #[.slice xa xs.length xc]] V fun e w' => e = .returned (.bool r1) ∧ Below V.heap.size V w') := hid fun V hV => (validR V xs xa xc (hx.kept hV) hI).mono fun e w' h => h.is hr1
  have HE : Hid (∀ V, Below w.heap.size w V → Calls Tryz.prog 7 #[.agg #[.slice xa xs.length xc], .agg #[.slice ya ys.length yc]] V fun e w' => e = .returned (.bool r2) ∧ Below V.heap.size V w') := hid fun V hV => (equalB V xs ys xa ya xc yc (hx.kept hV) (hy.kept hV)).mono fun e w' h => h.is hr2
  have HS : Hid (∀ V, Below w.heap.size w V → Calls Tryz.prog 8 #[.agg #[.slice xa xs.length xc], .agg #[.slice ya ys.length yc]] V fun e w' => e = .returned (.bool r2) ∧ Below V.heap.size V w') := hid fun V hV => (sameD V xs ys xa ya xc yc (hx.kept hV) (hy.kept hV)).mono fun e w' h => h.is hr2
  clear hx hy hz hI hr1 hr2 hm
  generalize xs.length = n at *
  generalize ys.length = m2 at *
  have Ba : Blk ((w.alloc (.cells #[.slice xa n xc] 24)).alloc (.cells #[.slice ya m2 yc] 24)) w.heap.size 24 #[.slice xa n xc] := (Blk.new _ _ _).kept (below_alloc _)
  have Bb : Blk ((w.alloc (.cells #[.slice xa n xc] 24)).alloc (.cells #[.slice ya m2 yc] 24)) (w.heap.size + 1) 24 #[.slice ya m2 yc] := Blk.newAt (by simp)
  have HB : Hid (Below w.heap.size w ((w.alloc (.cells #[.slice xa n xc] 24)).alloc (.cells #[.slice ya m2 yc] 24))) := hid (by exact blBy)
  go_enter Tryz.func3, Tryz.ntmps3
  go_wp2_with fail
  generalize ((w.alloc (.cells #[.slice xa n xc] 24)).alloc (.cells #[.slice ya m2 yc] 24)) = V at *
  have e0 := Ba.cell 0 _ rfl
  have e1 := Bb.cell 0 _ rfl
  simp only [List.getElem_toArray, List.getElem_cons_zero] at e0 e1
  clear Ba Bb
  cases r1 <;> cases r2 <;>
  · go_region_held3 (fun W => W.cell? ⟨w.heap.size, 0, none⟩ = some (.slice xa n xc) ∧ W.cell? ⟨w.heap.size + 1, 0, none⟩ = some (.slice ya m2 yc)) (first | exact ⟨e0, e1⟩) (first | (go_at_call 4; refine (HAW.out _ (below_trans HB.out (by first | exact Below.refl _ _ | exact below_drew1 _ | exact below_drewN _ _))).mono ?_; rintro e w4 ⟨rfl, hbx⟩; replace e0 := cell_below e0 (below_trans (by first | exact Below.refl _ _ | exact below_drew1 _ | exact below_drewN _ _) hbx); replace e1 := cell_below e1 (below_trans (by first | exact Below.refl _ _ | exact below_drew1 _ | exact below_drewN _ _) hbx); replace HB := hid (below_trans HB.out (below_trans (by first | exact Below.refl _ _ | exact below_drew1 _ | exact below_drewN _ _) hbx)); clear hbx) | (go_at_call 5; refine (HV.out _ (below_trans HB.out (by first | exact Below.refl _ _ | exact below_drew1 _ | exact below_drewN _ _))).mono ?_; rintro e w4 ⟨rfl, hbx⟩; replace e0 := cell_below e0 (below_trans (by first | exact Below.refl _ _ | exact below_drew1 _ | exact below_drewN _ _) hbx); replace e1 := cell_below e1 (below_trans (by first | exact Below.refl _ _ | exact below_drew1 _ | exact below_drewN _ _) hbx); replace HB := hid (below_trans HB.out (below_trans (by first | exact Below.refl _ _ | exact below_drew1 _ | exact below_drewN _ _) hbx)); clear hbx) | (go_at_call 6; refine (HW.out _ (below_trans HB.out (by first | exact Below.refl _ _ | exact below_drew1 _ | exact below_drewN _ _))).mono ?_; rintro e w4 ⟨rfl, hbx⟩; replace e0 := cell_below e0 (below_trans (by first | exact Below.refl _ _ | exact below_drew1 _ | exact below_drewN _ _) hbx); replace e1 := cell_below e1 (below_trans (by first | exact Below.refl _ _ | exact below_drew1 _ | exact below_drewN _ _) hbx); replace HB := hid (below_trans HB.out (below_trans (by first | exact Below.refl _ _ | exact below_drew1 _ | exact below_drewN _ _) hbx)); clear hbx) | (go_at_call 7; refine (HE.out _ (below_trans HB.out (by first | exact Below.refl _ _ | exact below_drew1 _ | exact below_drewN _ _))).mono ?_; rintro e w4 ⟨rfl, hbx⟩; replace e0 := cell_below e0 (below_trans (by first | exact Below.refl _ _ | exact below_drew1 _ | exact below_drewN _ _) hbx); replace e1 := cell_below e1 (below_trans (by first | exact Below.refl _ _ | exact below_drew1 _ | exact below_drewN _ _) hbx); replace HB := hid (below_trans HB.out (below_trans (by first | exact Below.refl _ _ | exact below_drew1 _ | exact below_drewN _ _) hbx)); clear hbx) | (go_at_call 8; refine (HS.out _ (below_trans HB.out (by first | exact Below.refl _ _ | exact below_drew1 _ | exact below_drewN _ _))).mono ?_; rintro e w4 ⟨rfl, hbx⟩; replace e0 := cell_below e0 (below_trans (by first | exact Below.refl _ _ | exact below_drew1 _ | exact below_drewN _ _) hbx); replace e1 := cell_below e1 (below_trans (by first | exact Below.refl _ _ | exact below_drew1 _ | exact below_drewN _ _) hbx); replace HB := hid (below_trans HB.out (below_trans (by first | exact Below.refl _ _ | exact below_drew1 _ | exact below_drewN _ _) hbx)); clear hbx))
    all_goals
      go_wp2
      go_ret
      exact ⟨rfl, HB.out⟩
end Go.Proofs.YtdhkbdngmejklaaGreatDoor
namespace Go.Proofs.YtdhkbdngmejklaaGreatDoor
open Go.ChangeShapes Go.WideShapes Go.ChangeAt Go.RowKit Go.Deep
set_option maxRecDepth 1000000
section
variable {H : Type}
end
end Go.Proofs.YtdhkbdngmejklaaGreatDoor
namespace Go.Proofs.YtdhkbdngmejklaaGreatDoor
open Go.ChangeShapes Go.WideShapes Go.ChangeAt Go.RowKit Go.Deep
set_option maxRecDepth 1000000
set_option linter.unusedVariables false
set_option linter.unusedSimpArgs false
set_option maxHeartbeats 1000000
section
variable {H : Type} {enc : TypeId × Value → H} {W : World} {spare : Nat → Bool} {held : Bool}
/-- A struct of fields of one cell each, opened. -/
theorem struct_open {t : TypeId} {fs : Array Field} (ht : Tryz.prog.underlying t = some (.struct fs)) (hone : oneCellFields Tryz.prog fs = true) (hsz : Tryz.prog.cellsOf t = fs.size) {fuel : Nat} {cs : List Value} {y : DataW H × List MemPlace} (h : DataW.trod enc Tryz.prog W 0 spare held fuel t cs = some y) :
    ∃ (xs : List (DataW H × List MemPlace)) (n : Nat), y.1 = .agg (xs.map (·.1)) ∧ xs.length = fs.size ∧ cs.length = fs.size ∧ ∀ (i : Nat) (f : Field), fs[i]? = some f → ∃ v yi, cs[i]? = some v ∧ xs[i]? = some yi ∧ DataW.trod enc Tryz.prog W 0 spare held n f.type [v] = some yi := by
  obtain ⟨xs, n, _, rfl, hl, hlen, hf⟩ := DataW.trod_struct ht h
  refine ⟨xs, n, rfl, hlen, hl.trans hsz, fun i f hi => ?_⟩
  have hlt : i < fs.size := (Array.getElem?_eq_some_iff.1 hi).1
  obtain ⟨o1, o2⟩ := hone_of hone i f hi
  have hc : i < cs.length := by omega
  have hx : i < xs.length := by omega
  refine ⟨cs[i], xs[i], by simp [hc], by simp [hx], ?_⟩
  have := hf i f hi
  have e : (cs.drop i).take 1 = [cs[i]] := by rw [List.drop_eq_getElem_cons hc]; rfl
  rw [o1, o2, e] at this
  rw [this]
  simp [hx]
theorem int_open {n : Nat} {v : Value} {y : DataW H × List MemPlace} (h : DataW.trod enc Tryz.prog W 0 spare held n 3 [v] = some y) : ∃ x : Int, v = .int .i64 x ∧ I64 x := by
  obtain ⟨x, e, rfl, hs⟩ := DataW.trod_int Tryz.underlying3 h
  simp at e
  subst e
  refine ⟨x, rfl, ?_⟩
  unfold I64
  simp [Lit.wf, IntKind.min, IntKind.max, IntKind.signed, IntKind.bits] at hs
  omega
end
end Go.Proofs.YtdhkbdngmejklaaGreatDoor
namespace Go.Proofs.YtdhkbdngmejklaaGreatDoor
open Go.ChangeShapes Go.WideShapes Go.ChangeAt Go.RowKit Go.Deep
set_option maxRecDepth 1000000
set_option linter.unusedVariables false
set_option linter.unusedSimpArgs false
set_option maxHeartbeats 1000000
theorem list_eq {cs : List Value} : ∀ (l : List Value), cs.length = l.length → (∀ (i : Nat) (v : Value), l[i]? = some v → cs[i]? = some v) → cs = l := fun l hl h => by
  apply List.ext_getElem? 
  intro i
  by_cases hi : i < l.length
  · rw [h i l[i] (by simp [hi])]; simp [hi]
  · rw [List.getElem?_eq_none (by omega), List.getElem?_eq_none (by omega)]
section
variable {H : Type} {enc : TypeId × Value → H} {W : World} {spare : Nat → Bool} {held : Bool}
end
end Go.Proofs.YtdhkbdngmejklaaGreatDoor
namespace Go.Proofs.YtdhkbdngmejklaaGreatDoor
open Go.ChangeShapes Go.WideShapes Go.ChangeAt Go.RowKit
set_option maxRecDepth 1000000
set_option maxRecDepth 100000
/-- The rows' list. -/
def laidL : List (String × DataW Unit) := [("unicode/utf8.acceptRanges", Rows.laid_unicode_utf8_acceptRanges), ("unicode/utf8.first", Rows.laid_unicode_utf8_first)]
theorem laid_plain {W : World} (h : laidMetH Tryz.prog laidL W) : laidMet Tryz.prog laidL W := h
/-- A block's cells laid anew. -/
noncomputable def layAt (g : Nat) (cs : Array Value) (w : World) : World := { w with heap := w.heap.modify g fun
      | .cells _ t frozen => .cells cs t frozen
      | o => o }
def numV : DataW Unit → Value
  | .lit (.int k n) => .int k n
  | _ => undef
def ldRow : DataW Unit → List Value
  | .agg ds => ds.map numV
  | _ => []
def ldRows : DataW Unit → List Value
  | .agg ds => ds.flatMap ldRow
  | _ => []
noncomputable def laidWorld (os : Os) : World :=
  layAt 2 (List.toArray (ldRows Rows.laid_unicode_utf8_acceptRanges)) (layAt 1 (List.toArray (ldRow Rows.laid_unicode_utf8_first)) (World.holding Tryz.prog os ⟨#[], #[], []⟩))
theorem laid_met (os : Os) (args : Array Value) : laidMet Tryz.prog laidL ((laidWorld os).forCall (fun _ _ => 0) ⟨#[], args, []⟩).memory :=
  laidMet_of_run' 8 (by kernel_rfl) (by kernel_rfl)
theorem maxLen_cell {W : World} (h : W.ShapedOpen Tryz.prog) : ∃ m, W.cell? ⟨0, 0, none⟩ = some (.int .i64 m) :=
  Go.Proofs.cell_of_shapedOpen_int (zero := #[.int .i64 0]) (t := 3) h (of_decide_eq_true (by kernel_rfl)) (by kernel_rfl) rfl (by kernel_rfl) (by kernel_rfl) Tryz.underlying3
end Go.Proofs.YtdhkbdngmejklaaGreatDoor
namespace Go.Proofs.YtdhkbdngmejklaaGreatDoor
open Go.ChangeShapes Go.WideShapes Go.ChangeAt Go.RowKit Go.Deep
set_option maxRecDepth 1000000
set_option linter.unusedVariables false
set_option linter.unusedSimpArgs false
set_option maxHeartbeats 1000000
section
variable {H : Type} {enc : TypeId × Value → H} {W : World} {spare : Nat → Bool} {held : Bool}
/-- Each part weighs at most N. -/
def WtLe (N : Nat) (t : TypeId) (d : DataW H) : Prop := ∀ n ∈ DataW.weights Tryz.prog t d, n ≤ N
theorem wt_all {e : TypeId} {l : List (DataW H)} {d : DataW H} (h : d ∈ l) : ∀ n ∈ DataW.weights Tryz.prog e d, n ∈ DataW.weightsAll Tryz.prog e l := by
  induction l with
  | nil => cases h
  | cons x r ih =>
    intro n hn
    unfold DataW.weightsAll
    rcases List.mem_cons.1 h with rfl | h
    · exact List.mem_append_left _ hn
    · exact List.mem_append_right _ (ih h n hn)
theorem wt_get {N : Nat} {t : TypeId} {fs : Array Field} (ht : Tryz.prog.underlying t = some (.struct fs)) {xs : List (DataW H × List MemPlace)} {i : Nat} {y : DataW H × List MemPlace} {f : Field} (h : xs[i]? = some y) (hf : fs[i]? = some f) (hw : WtLe N t (DataW.agg (xs.map (·.1)))) : WtLe N f.type y.1 := fun n hn => hw n (by
  unfold DataW.weights
  rw [ht]
  exact DataW.weights_mem_each (j := i) (t := f.type) (d := y.1) (by rw [List.getElem?_map]; have : fs.toList[i]? = some f := by rw [Array.getElem?_toList]; exact hf
                                                                     rw [this]; rfl) (by rw [List.getElem?_map, h]; rfl) n hn)
/-- A row of structs, opened, with what it weighs. -/
theorem rows_openW {α : Type} (g : α → List Value) (K : Nat) (hK0 : 0 < K) (Q : α → DataW H → Prop) {t e : TypeId} (ht : Tryz.prog.underlying t = some (.slice e)) (hK : Tryz.prog.cellsOf e = K) (hg : ∀ x, (g x).length = K)
    (hel : ∀ (n : Nat) (cs : List Value) (y : DataW H × List MemPlace), DataW.trod enc Tryz.prog W 0 spare held n e cs = some y → ∃ x, cs = g x ∧ Q x y.1) {fuel : Nat} {v : Value} {y : DataW H × List MemPlace} (hf : DataW.trod enc Tryz.prog W 0 spare held fuel t [v] = some y) :
    ∃ (a : Option Addr) (cap : Nat) (xs : List α), v = .slice a xs.length cap ∧ RowS W AnyZ K v xs.length (xs.flatMap g) ∧ (∀ N, WtLe N t y.1 → xs.length * Tryz.prog.bytesOf e ≤ N) ∧ ∀ x ∈ xs, ∃ d, Q x d ∧ ∀ N, WtLe N t y.1 → WtLe N e d := by
  rcases open_slice ht hf with ⟨hcs, rfl⟩ | ⟨a, len, cap, m, n, D, Pl, hcs, _, hl, hm, hmm, rfl, hx⟩
  · simp at hcs
    subst hcs
    exact ⟨none, 0, [], rfl, rowS_nil _ _ _, by simp, fun x hx => by cases hx⟩
  · simp at hcs
    subst hcs
    rw [hK] at hx
    have hlm : len ≤ m := by rw [hmm]; split <;> omega
    have hc : ∀ i, i < len → ∃ x : α, W.cells? 0 (a.add (i * K)) K = some (g x) ∧ Q x (D i) := fun i hi => by
      obtain ⟨cs', h1, h2⟩ := hx i (by omega)
      obtain ⟨x, rfl, hq⟩ := hel _ _ _ h2
      exact ⟨x, h1, hq⟩
    obtain ⟨xs, hxl, hxs⟩ : ∃ xs : List α, xs.length = len ∧ ∀ i (h : i < xs.length), W.cells? 0 (a.add (i * K)) K = some (g xs[i]) ∧ Q xs[i] (D i) := by
      clear hx hl hlm hmm hf
      induction len with
      | zero => exact ⟨[], rfl, fun i h => by simp at h⟩
      | succ k ih =>
        obtain ⟨xs, h1, h2⟩ := ih (fun i hi => hc i (by omega))
        obtain ⟨x, h3, h4⟩ := hc k (by omega)
        refine ⟨xs ++ [x], by simp [h1], fun i h => ?_⟩
        by_cases e : i < xs.length
        · rw [List.getElem_append_left e]; exact h2 i e
        · have ei : i = k := by simp at h; omega
          subst ei
          rw [List.getElem_append_right (by omega)]
          simp [h1, h3, h4]
    subst hxl
    have hb : ∀ i, i < xs.length → D i ∈ (List.range xs.length).map D := fun i hi => List.mem_map.2 ⟨i, List.mem_range.2 hi, rfl⟩
    refine ⟨some a, cap, xs, rfl, ⟨some a, cap, rfl, flatM_len hg xs, hl, by unfold maxLen at hm; omega, ?_⟩, ?_, fun x hxm => ?_⟩
    · by_cases h0 : xs.length = 0
      · exact .inl ⟨h0, fun e => by cases e⟩
      · obtain ⟨b, off, spot⟩ := a
        have hspot : spot = none := by
          have h1 := (World.cells?_some (hxs 0 (by omega)).1).2.2 0 hK0
          have h2 : (g xs[0])[0]? = some ((g xs[0])[0]'(by rw [hg]; exact hK0)) := by simp
          rw [h2] at h1
          simpa [Addr.add] using World.cell?_spot h1
        subst hspot
        refine .inr ⟨b, off, rfl, trivial, fun j u hu => ?_⟩
        have hj : j < xs.length * K := by rw [← flatM_len hg xs]; exact (List.getElem?_eq_some_iff.1 hu).1
        have hi : j / K < xs.length := (Nat.div_lt_iff_lt_mul hK0).2 hj
        have hr : j % K < K := Nat.mod_lt _ hK0
        have hjj : j / K * K + j % K = j := by rw [Nat.mul_comm]; exact Nat.div_add_mod j K
        have h2 : (g xs[j / K])[j % K]? = some ((g xs[j / K])[j % K]'(by rw [hg]; exact hr)) := by simp
        have h3 := flatM_get hg xs (j / K) (j % K) xs[j / K] _ (by simp [hi]) h2
        rw [hjj] at h3
        rw [h3] at hu
        have h1 := (World.cells?_some (hxs (j / K) hi).1).2.2 (j % K) hr
        have hadd : ((⟨b, off, none⟩ : Addr).add (j / K * K)).add (j % K) = ⟨b, off + j, none⟩ := by
          have e1 : ∀ (o i : Nat), (⟨b, o, none⟩ : Addr).add i = ⟨b, o + i, none⟩ := fun o i => by unfold Addr.add; split <;> simp_all
          rw [e1, e1, Nat.add_assoc, hjj]
        rw [hadd, h2] at h1
        rw [h1]
        exact hu
    · intro N hN
      have := hN (((List.range xs.length).map D).length * Tryz.prog.bytesOf e + ((List.range (m - xs.length)).map fun j => D (xs.length + j)).length * Tryz.prog.bytesOf e) (by rw [← Nat.add_mul]; unfold DataW.weights; rw [ht]; exact List.mem_cons_self ..)
      rw [List.length_map, List.length_range] at this
      omega
    · obtain ⟨i, hi, rfl⟩ := List.mem_iff_getElem.1 hxm
      refine ⟨D i, (hxs i hi).2, fun N hN n hn => hN n ?_⟩
      unfold DataW.weights
      rw [ht]
      exact List.mem_cons_of_mem _ (List.mem_append_left _ (wt_all (hb i hi) n hn))
end
end Go.Proofs.YtdhkbdngmejklaaGreatDoor
namespace Go.Proofs.YtdhkbdngmejklaaGreatDoor
open Go.ChangeShapes Go.WideShapes Go.ChangeAt Go.RowKit Go.Deep
set_option maxRecDepth 1000000
set_option linter.unusedVariables false
set_option linter.unusedSimpArgs false
set_option maxHeartbeats 1000000
theorem fieldsIn : ∃ f0 f1 f2 f3 f4, Tryz.prog.underlying 63 = some (.struct #[f0, f1, f2, f3, f4]) ∧ oneCellFields Tryz.prog #[f0, f1, f2, f3, f4] = true ∧ Tryz.prog.cellsOf 63 = 5 ∧ f0.type = 3 ∧ f1.type = 3 ∧ f2.type = 3 ∧ f3.type = 3 ∧ f4.type = 3 :=
  ⟨_, _, _, _, _, Tryz.underlying63, by kernel_rfl, by kernel_rfl, by kernel_rfl, by kernel_rfl, by kernel_rfl, by kernel_rfl, by kernel_rfl⟩
theorem fieldsLn : ∃ f0 f1, Tryz.prog.underlying 48 = some (.struct #[f0, f1]) ∧ oneCellFields Tryz.prog #[f0, f1] = true ∧ Tryz.prog.cellsOf 48 = 2 ∧ f0.type = 3 ∧ f1.type = 3 :=
  ⟨_, _, Tryz.underlying48, by kernel_rfl, by kernel_rfl, by kernel_rfl, by kernel_rfl⟩
theorem fieldsBk : ∃ f0 f1 f2, Tryz.prog.underlying 31 = some (.struct #[f0, f1, f2]) ∧ oneCellFields Tryz.prog #[f0, f1, f2] = true ∧ Tryz.prog.cellsOf 31 = 3 ∧ f0.type = 28 ∧ f1.type = 28 ∧ f2.type = 29 :=
  ⟨_, _, _, Tryz.underlying31, by kernel_rfl, by kernel_rfl, by kernel_rfl, by kernel_rfl, by kernel_rfl⟩
theorem fieldsPg : ∃ f0, Tryz.prog.underlying 24 = some (.struct #[f0]) ∧ oneCellFields Tryz.prog #[f0] = true ∧ Tryz.prog.cellsOf 24 = 1 ∧ Tryz.prog.underlying f0.type = some (.slice 31) :=
  ⟨_, Tryz.underlying24, by kernel_rfl, by kernel_rfl, by kernel_rfl⟩
section
variable {H : Type} {enc : TypeId × Value → H} {W : World} {spare : Nat → Bool} {held : Bool}
theorem in_open (n : Nat) (cs : List Value) (y : DataW H × List MemPlace) (h : DataW.trod enc Tryz.prog W 0 spare held n 63 cs = some y) : ∃ x : IN, cs = cIN x ∧ I5 x := by
  obtain ⟨f0, f1, f2, f3, f4, hs, hone, hsz, t0, t1, t2, t3, t4⟩ := fieldsIn
  obtain ⟨xs, m, hy, hxl, hcl, hi⟩ := struct_open hs hone hsz h
  obtain ⟨v0, y0, c0, x0, h0⟩ := hi 0 f0 rfl
  rw [t0] at h0
  obtain ⟨v1, y1, c1, x1, h1⟩ := hi 1 f1 rfl
  rw [t1] at h1
  obtain ⟨v2, y2, c2, x2, h2⟩ := hi 2 f2 rfl
  rw [t2] at h2
  obtain ⟨v3, y3, c3, x3, h3⟩ := hi 3 f3 rfl
  rw [t3] at h3
  obtain ⟨v4, y4, c4, x4, h4⟩ := hi 4 f4 rfl
  rw [t4] at h4
  obtain ⟨a0, rfl, k0⟩ := int_open h0
  obtain ⟨a1, rfl, k1⟩ := int_open h1
  obtain ⟨a2, rfl, k2⟩ := int_open h2
  obtain ⟨a3, rfl, k3⟩ := int_open h3
  obtain ⟨a4, rfl, k4⟩ := int_open h4
  refine ⟨⟨a0, a1, a2, a3, a4⟩, list_eq _ (by rw [hcl]; rfl) fun i v hv => ?_, ?_⟩
  · match i, hv with
    | 0, hv => simp [cIN] at hv; subst hv; exact c0
    | 1, hv => simp [cIN] at hv; subst hv; exact c1
    | 2, hv => simp [cIN] at hv; subst hv; exact c2
    | 3, hv => simp [cIN] at hv; subst hv; exact c3
    | 4, hv => simp [cIN] at hv; subst hv; exact c4
    | i + 5, hv => simp [cIN] at hv
  · constructor <;> assumption
theorem ln_open (n : Nat) (cs : List Value) (y : DataW H × List MemPlace) (h : DataW.trod enc Tryz.prog W 0 spare held n 48 cs = some y) : ∃ x : LN, cs = cLN x ∧ (I64 x.tag ∧ I64 x.pl) := by
  obtain ⟨f0, f1, hs, hone, hsz, t0, t1⟩ := fieldsLn
  obtain ⟨xs, m, hy, hxl, hcl, hi⟩ := struct_open hs hone hsz h
  obtain ⟨v0, y0, c0, x0, h0⟩ := hi 0 f0 rfl
  rw [t0] at h0
  obtain ⟨v1, y1, c1, x1, h1⟩ := hi 1 f1 rfl
  rw [t1] at h1
  obtain ⟨a0, rfl, k0⟩ := int_open h0
  obtain ⟨a1, rfl, k1⟩ := int_open h1
  refine ⟨⟨a0, a1⟩, list_eq _ (by rw [hcl]; rfl) fun i v hv => ?_, k0, k1⟩
  match i, hv with
  | 0, hv => simp [cLN] at hv; subst hv; exact c0
  | 1, hv => simp [cLN] at hv; subst hv; exact c1
  | i + 2, hv => simp [cLN] at hv
theorem bv_open (n : Nat) (cs : List Value) (y : DataW H × List MemPlace) (h : DataW.trod enc Tryz.prog W 0 spare held n 31 cs = some y) : ∃ x : BV, cs = cBV x ∧ (BkR W x.k x.d x.e x.r ∧ IB x ∧ (WtLe reachBytes 31 y.1 → x.k.dec.length ≤ 140737488355328 ∧ x.k.enc.length ≤ 140737488355328)) := by
  obtain ⟨f0, f1, f2, hs, hone, hsz, t0, t1, t2⟩ := fieldsBk
  obtain ⟨xs, m, hy, hxl, hcl, hi⟩ := struct_open hs hone hsz h
  obtain ⟨v0, y0, c0, x0, h0⟩ := hi 0 f0 rfl
  rw [t0] at h0
  obtain ⟨v1, y1, c1, x1, h1⟩ := hi 1 f1 rfl
  rw [t1] at h1
  obtain ⟨v2, y2, c2, x2, h2⟩ := hi 2 f2 rfl
  rw [t2] at h2
  obtain ⟨da, dc, ds, rfl, rd, ld, qd⟩ := rows_openW cIN 5 (by decide) (fun x d => I5 x) Tryz.underlying28 (by kernel_rfl) (fun _ => rfl) in_open h0
  obtain ⟨ea, ec, es, rfl, re, le, qe⟩ := rows_openW cIN 5 (by decide) (fun x d => I5 x) Tryz.underlying28 (by kernel_rfl) (fun _ => rfl) in_open h1
  obtain ⟨ra, rc, rs, rfl, rr, lr, qr⟩ := rows_openW cLN 2 (by decide) (fun x d => I64 x.tag ∧ I64 x.pl) Tryz.underlying29 (by kernel_rfl) (fun _ => rfl) ln_open h2
  refine ⟨⟨⟨ds, es, rs⟩, _, _, _⟩, list_eq _ (by rw [hcl]; rfl) fun i v hv => ?_, ⟨rd, re, rr⟩, ⟨fun s hs => ?_, fun s hs => ?_, fun r hr => ?_⟩, fun hb => ⟨?_, ?_⟩⟩
  · match i, hv with
    | 0, hv => simp [cBV] at hv; subst hv; exact c0
    | 1, hv => simp [cBV] at hv; subst hv; exact c1
    | 2, hv => simp [cBV] at hv; subst hv; exact c2
    | i + 3, hv => simp [cBV] at hv
  · obtain ⟨d, hd, _⟩ := qd s hs
    exact hd
  · obtain ⟨d, hd, _⟩ := qe s hs
    exact hd
  · obtain ⟨d, hd, _⟩ := qr r hr
    have := hd.1
    unfold I64 at this
    omega
  · have h40 : Tryz.prog.bytesOf 63 = 40 := by kernel_rfl
    have := ld reachBytes (t0 ▸ wt_get hs x0 rfl (hy ▸ hb))
    have h47 := reachBytes_lt
    rw [h40] at this
    dsimp only
    omega
  · have h40 : Tryz.prog.bytesOf 63 = 40 := by kernel_rfl
    have := le reachBytes (t1 ▸ wt_get hs x1 rfl (hy ▸ hb))
    have h47 := reachBytes_lt
    rw [h40] at this
    dsimp only
    omega
theorem pg_open {n : Nat} {v : Value} {y : DataW H × List MemPlace} (h : DataW.trod enc Tryz.prog W 0 spare held n 24 [v] = some y) : ∃ (a : Option Addr) (c : Nat) (l : List BV), v = .slice a l.length c ∧ PgR W (.slice a l.length c) l ∧ (∀ x ∈ l, IB x) ∧ (WtLe reachBytes 24 y.1 → ∀ x ∈ l, x.k.dec.length ≤ 140737488355328 ∧ x.k.enc.length ≤ 140737488355328) := by
  obtain ⟨f0, hs, hone, hsz, t0⟩ := fieldsPg
  obtain ⟨xs, m, hy, hxl, hcl, hi⟩ := struct_open hs hone hsz h
  obtain ⟨v0, y0, c0, x0, h0⟩ := hi 0 f0 rfl
  simp at c0
  subst c0
  obtain ⟨a, c, l, rfl, r, hl, q⟩ := rows_openW cBV 3 (by decide) (fun x d => BkR W x.k x.d x.e x.r ∧ IB x ∧ (WtLe reachBytes 31 d → x.k.dec.length ≤ 140737488355328 ∧ x.k.enc.length ≤ 140737488355328)) t0 (by kernel_rfl) (fun _ => rfl) bv_open h0
  exact ⟨a, c, l, rfl, ⟨r, fun x hx => by obtain ⟨d, hd, _⟩ := q x hx; exact hd.1⟩, fun x hx => by obtain ⟨d, hd, _⟩ := q x hx; exact hd.2.1, fun hb x hx => by obtain ⟨d, hd, hdb⟩ := q x hx; exact hd.2.2 (hdb _ (wt_get hs x0 rfl (hy ▸ hb)))⟩
end
end Go.Proofs.YtdhkbdngmejklaaGreatDoor
