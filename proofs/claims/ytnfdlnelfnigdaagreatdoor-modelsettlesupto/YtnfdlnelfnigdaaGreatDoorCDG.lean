/-
  ModelSettles: settled as the document says.
  What comes in, opened: strings; and what the bound on it says.
  A table that comes in, opened.
  A table that comes in, opened: fields, symbols, ranges, types.
  A message that comes in, opened.
  The variables of Go's library that the rows list: a world that lays them; the one that is named alone.
-/
import Derived.Test.YtnfdlnelfnigdaaGreatDoorCAC
import Derived.Test.YtnfdlnelfnigdaaGreatDoorCNG
import Derived.Test.YtnfdlnelfnigdaaGreatDoorCTY0
import Derived.ProofKit
import Derived.OpenShut
import Derived.ShutString
import Derived.Lib.SmallJoins
import Derived.Deep.Slices
import Derived.Deep.Fields
import Derived.Test.YtnfdlnelfnigdaaGreatDoorCAA
import Derived.Test.YtnfdlnelfnigdaaGreatDoorRows
import Derived.Stop.LaidErr
import Derived.Deep.DeepHandedRow
import Derived.Deep.DeepWitnessRowRef
import Derived.LaidLaws
namespace Go.Proofs.YtnfdlnelfnigdaaGreatDoor
open Go.RowKit
set_option maxRecDepth 1000000
set_option linter.unusedVariables false
set_option linter.unusedSimpArgs false
set_option maxHeartbeats 2000000
theorem modelSettlesW (w : World) (l : List TV) (ta : Option Addr) (tc : Nat) (h : TbR w (.slice ta l.length tc) l) (hk : ∀ x ∈ l, OkV x) (hz : ∀ x ∈ l, x.t.name.length < 4000000) (mx : Int) (hm0 : w.cell? ⟨0, 0, none⟩ = some (.int .i64 mx)) (idx : Int) (Z : Nat → Prop) (d : Nat) (cs : List Value) (m : CM) (hm : MsgE w Z d cs m) : Calls Tryz.prog 5 #[.agg #[.slice ta l.length tc], .int .i64 idx, .agg cs.toArray] w fun e w' => e = .returned (.bool true) ∧ Below w.heap.size w w' := by
  have HSY : Hid (∀ y ∈ l, ∀ s ∈ y.t.ss, I64 s.num) := hid (fun y hy s hs => ((hk y hy).ok.ss s hs).2)
  have HT := hid h
  have HK := hid hk
  have HM0 := hid hm0
  have HMM := hid hm
  have HAW := hid fun W (hW : Below w.heap.size w W) => awake8 W mx (cell_below hm0 hW)
  have HIS := hid fun W (hW : Below w.heap.size w W) => isR W l ta tc (h.kept hW) hk hz idx
  obtain ⟨a1, c1, a2, c2, rfl, -⟩ := msg_openD hm
  clear h hk hz hm0 hm
  have HEM : Hid (∀ W : World, Calls Tryz.prog 16 #[.agg #[.slice none 0 0, .slice none 0 0]] W fun e w' => e = .returned (.bool true) ∧ Below W.heap.size W w') := hid fun W => emptyD W AnyZ 1 [.slice none 0 0, .slice none 0 0] (CM.mk [] []) ⟨_, _, rfl, RowM.nil _ _ _ _, RowM.nil _ _ _ _⟩
  cases q : isB l idx false with
  | false =>
    have H1 := hid fun W (hW : Below w.heap.size w W) => settleNo W l ta tc (HT.out.kept hW) HK.out mx (cell_below HM0.out hW) idx q a1 a2 m.fs.length c1 m.us.length c2
    rw [q] at HIS
    clear HT HK HM0 HMM HSY q
    go_enter Tryz.func5, Tryz.ntmps5
    go_wp2_with fail
    refine (H1.out _ (by exact blBy)).mono ?_
    rintro e w1 ⟨rfl, hb⟩
    have Bt : Hid (Blk w1 w.heap.size 46 #[.slice ta l.length tc]) := hid (((Blk.new _ _ _).kept (below_alloc _)).kept hb)
    have Bm : Hid (Blk w1 (w.heap.size + 1) 35 #[.slice a1 m.fs.length c1, .slice a2 m.us.length c2]) := hid ((Blk.newAt (by simp)).kept hb)
    have HB : Hid (Below w.heap.size w w1) := hid (bl_then (by exact blBy) hb)
    have xt := Bt.out.cellF
    have zt := Bt.out.lt
    have xm := Bm.out.cellF
    have zm := Bm.out.lt
    clear hb
    go_wp2_with fail
    refine (HAW.out _ (by have := HB.out; exact blBy)).mono ?_
    rintro e w2 ⟨rfl, hb⟩
    have Bs : Hid (Blk w2 w1.heap.size 35 #[.slice none 0 0, .slice none 0 0]) := hid ((Blk.new _ _ _).kept hb)
    replace Bt := hid ((Bt.out.kept (below_alloc _)).kept hb)
    replace Bm := hid ((Bm.out.kept (below_alloc _)).kept hb)
    replace HB := hid (below_trans HB.out (below_trans (below_alloc _) hb))
    clear xt zt xm zm
    have xt := Bt.out.cellF
    have zt := Bt.out.lt
    have xm := Bm.out.cellF
    have zm := Bm.out.lt
    have xs := Bs.out.cellF
    have zs := Bs.out.lt
    clear hb
    go_wp2_with fail
    refine (HIS.out _ (by have := HB.out; exact blBy)).mono ?_
    rintro e w3 ⟨rfl, hb⟩
    replace Bt := hid (Bt.out.kept hb)
    replace Bm := hid (Bm.out.kept hb)
    replace Bs := hid (Bs.out.kept hb)
    replace HB := hid (below_trans HB.out hb)
    clear xt zt xm zm xs zs
    have xt := Bt.out.cellF
    have zt := Bt.out.lt
    have xm := Bm.out.cellF
    have zm := Bm.out.lt
    have xs := Bs.out.cellF
    have zs := Bs.out.lt
    clear hb
    go_wp2_with fail
    refine (HEM.out _).mono ?_
    rintro e w4 ⟨rfl, hb⟩
    replace Bt := hid (Bt.out.kept hb)
    replace Bm := hid (Bm.out.kept hb)
    replace Bs := hid (Bs.out.kept hb)
    replace HB := hid (below_trans HB.out hb)
    clear xt zt xm zm xs zs
    have xt := Bt.out.cellF
    have zt := Bt.out.lt
    have xm := Bm.out.cellF
    have zm := Bm.out.lt
    have xs := Bs.out.cellF
    have zs := Bs.out.lt
    clear hb
    go_wp2
    go_ret
    exact ⟨ret_bool (by simp), HB.out⟩
  | true =>
    rw [q] at HIS
    obtain ⟨k, hkl, rfl, hg, he⟩ := isB_at q
    have H5 := hid fun W (hW : Below w.heap.size w W) => typedD l ta tc hg HSY.out d W Z k hkl _ m (HT.out.kept hW) (HMM.out.kept hW)
    cases hq : keptB l d l[k] m with
    | false =>
      have H1 := hid fun W (hW : Below w.heap.size w W) => settleBad W l ta tc (HT.out.kept hW) HK.out mx (cell_below HM0.out hW) k hkl hg he Z d _ m (HMM.out.kept hW) hq
      rw [hq] at H5
      clear HT HK HM0 HMM HSY q hg he hq
      go_enter Tryz.func5, Tryz.ntmps5
      go_wp2_with fail
      refine (H1.out _ (by exact blBy)).mono ?_
      rintro e w1 ⟨rfl, hb⟩
      have Bt : Hid (Blk w1 w.heap.size 46 #[.slice ta l.length tc]) := hid (((Blk.new _ _ _).kept (below_alloc _)).kept hb)
      have Bm : Hid (Blk w1 (w.heap.size + 1) 35 #[.slice a1 m.fs.length c1, .slice a2 m.us.length c2]) := hid ((Blk.newAt (by simp)).kept hb)
      have HB : Hid (Below w.heap.size w w1) := hid (bl_then (by exact blBy) hb)
      have xt := Bt.out.cellF
      have zt := Bt.out.lt
      have xm := Bm.out.cellF
      have zm := Bm.out.lt
      clear hb
      go_wp2_with fail
      refine (HAW.out _ (by have := HB.out; exact blBy)).mono ?_
      rintro e w2 ⟨rfl, hb⟩
      have Bs : Hid (Blk w2 w1.heap.size 35 #[.slice none 0 0, .slice none 0 0]) := hid ((Blk.new _ _ _).kept hb)
      replace Bt := hid ((Bt.out.kept (below_alloc _)).kept hb)
      replace Bm := hid ((Bm.out.kept (below_alloc _)).kept hb)
      replace HB := hid (below_trans HB.out (below_trans (below_alloc _) hb))
      clear xt zt xm zm
      have xt := Bt.out.cellF
      have zt := Bt.out.lt
      have xm := Bm.out.cellF
      have zm := Bm.out.lt
      have xs := Bs.out.cellF
      have zs := Bs.out.lt
      clear hb
      go_wp2_with fail
      refine (HIS.out _ (by have := HB.out; exact blBy)).mono ?_
      rintro e w3 ⟨rfl, hb⟩
      replace Bt := hid (Bt.out.kept hb)
      replace Bm := hid (Bm.out.kept hb)
      replace Bs := hid (Bs.out.kept hb)
      replace HB := hid (below_trans HB.out hb)
      clear xt zt xm zm xs zs
      have xt := Bt.out.cellF
      have zt := Bt.out.lt
      have xm := Bm.out.cellF
      have zm := Bm.out.lt
      have xs := Bs.out.cellF
      have zs := Bs.out.lt
      clear hb
      go_wp2_with fail
      refine (H5.out _ (by have := HB.out; exact blBy)).mono ?_
      rintro e w4 ⟨rfl, hb⟩
      replace Bt := hid (Bt.out.kept hb)
      replace Bm := hid (Bm.out.kept hb)
      replace Bs := hid (Bs.out.kept hb)
      replace HB := hid (below_trans HB.out hb)
      clear xt zt xm zm xs zs
      have xt := Bt.out.cellF
      have zt := Bt.out.lt
      have xm := Bm.out.cellF
      have zm := Bm.out.lt
      have xs := Bs.out.cellF
      have zs := Bs.out.lt
      clear hb
      go_wp2_with fail
      refine (HEM.out _).mono ?_
      rintro e w5 ⟨rfl, hb⟩
      replace Bt := hid (Bt.out.kept hb)
      replace Bm := hid (Bm.out.kept hb)
      replace Bs := hid (Bs.out.kept hb)
      replace HB := hid (below_trans HB.out hb)
      clear xt zt xm zm xs zs
      have xt := Bt.out.cellF
      have zt := Bt.out.lt
      have xm := Bm.out.cellF
      have zm := Bm.out.lt
      have xs := Bs.out.cellF
      have zs := Bs.out.lt
      clear hb
      go_wp2
      go_ret
      exact ⟨ret_bool (by simp), HB.out⟩
    | true =>
      have H1 := hid fun W (hW : Below w.heap.size w W) => settleOk W l ta tc (HT.out.kept hW) HK.out mx (cell_below HM0.out hW) k hkl hg he Z d _ m (HMM.out.kept hW) hq
      have H6 := hid fun W (hW : Below w.heap.size w W) => settleD l ta tc hg d W Z k hkl _ m (HT.out.kept hW) hq (HMM.out.kept hW)
      rw [hq] at H5
      generalize setM l d l[k] m = sm at *
      clear HT HK HM0 HMM HSY q hg he hq HEM
      go_enter Tryz.func5, Tryz.ntmps5
      go_wp2_with fail
      refine (H1.out _ (by exact blBy)).mono ?_
      rintro e w1 ⟨ds, rfl, hn, hb⟩
      have Bt : Hid (Blk w1 w.heap.size 46 #[.slice ta l.length tc]) := hid (((Blk.new _ _ _).kept (below_alloc _)).kept hb)
      have Bm : Hid (Blk w1 (w.heap.size + 1) 35 #[.slice a1 m.fs.length c1, .slice a2 m.us.length c2]) := hid ((Blk.newAt (by simp)).kept hb)
      have HB : Hid (Below w.heap.size w w1) := hid (bl_then (by exact blBy) hb)
      have xt := Bt.out.cellF
      have zt := Bt.out.lt
      have xm := Bm.out.cellF
      have zm := Bm.out.lt
      obtain ⟨sa, sc, ua, uc, rfl, -⟩ := msg_openD hn
      have HN : Hid (MsgE w1 AnyZ d [.slice sa sm.fs.length sc, .slice ua sm.us.length uc] sm) := hid hn.any
      clear hn
      clear hb
      go_wp2_with fail
      refine (HAW.out _ (by have := HB.out; exact blBy)).mono ?_
      rintro e w2 ⟨rfl, hb⟩
      have Bs : Hid (Blk w2 w1.heap.size 35 #[.slice sa sm.fs.length sc, .slice ua sm.us.length uc]) := hid ((Blk.new _ _ _).kept hb)
      replace Bt := hid ((Bt.out.kept (below_alloc _)).kept hb)
      replace Bm := hid ((Bm.out.kept (below_alloc _)).kept hb)
      replace HN := hid (MsgE.kept HN.out (below_trans (below_alloc _) hb))
      replace HB := hid (below_trans HB.out (below_trans (below_alloc _) hb))
      clear xt zt xm zm
      have xt := Bt.out.cellF
      have zt := Bt.out.lt
      have xm := Bm.out.cellF
      have zm := Bm.out.lt
      have xs := Bs.out.cellF
      have zs := Bs.out.lt
      clear hb
      go_wp2_with fail
      refine (HIS.out _ (by have := HB.out; exact blBy)).mono ?_
      rintro e w3 ⟨rfl, hb⟩
      replace Bt := hid (Bt.out.kept hb)
      replace Bm := hid (Bm.out.kept hb)
      replace Bs := hid (Bs.out.kept hb)
      replace HN := hid (MsgE.kept HN.out hb)
      replace HB := hid (below_trans HB.out hb)
      clear xt zt xm zm xs zs
      have xt := Bt.out.cellF
      have zt := Bt.out.lt
      have xm := Bm.out.cellF
      have zm := Bm.out.lt
      have xs := Bs.out.cellF
      have zs := Bs.out.lt
      clear hb
      go_wp2_with fail
      refine (H5.out _ (by have := HB.out; exact blBy)).mono ?_
      rintro e w4 ⟨rfl, hb⟩
      replace Bt := hid (Bt.out.kept hb)
      replace Bm := hid (Bm.out.kept hb)
      replace Bs := hid (Bs.out.kept hb)
      replace HN := hid (MsgE.kept HN.out hb)
      replace HB := hid (below_trans HB.out hb)
      clear xt zt xm zm xs zs
      have xt := Bt.out.cellF
      have zt := Bt.out.lt
      have xm := Bm.out.cellF
      have zm := Bm.out.lt
      have xs := Bs.out.cellF
      have zs := Bs.out.lt
      clear hb
      go_upto_region 8 with fail
      clear xt zt xm zm xs zs
      have HSK : Hid (∀ W, Below w4.heap.size w4 W → (fun W => (∀ k, W.cell? ⟨w.heap.size, k, none⟩ = #[.slice ta l.length tc][k]?) ∧ (∀ k, W.cell? ⟨w.heap.size + 1, k, none⟩ = #[.slice a1 m.fs.length c1, .slice a2 m.us.length c2][k]?) ∧ (∀ k, W.cell? ⟨w1.heap.size, k, none⟩ = #[.slice sa sm.fs.length sc, .slice ua sm.us.length uc][k]?)) W) := hid fun W hW => ⟨(Bt.out.kept hW).cellF, (Bm.out.kept hW).cellF, (Bs.out.kept hW).cellF⟩
      refine wp_region_held_drew (S := (fun W => (∀ k, W.cell? ⟨w.heap.size, k, none⟩ = #[.slice ta l.length tc][k]?) ∧ (∀ k, W.cell? ⟨w.heap.size + 1, k, none⟩ = #[.slice a1 m.fs.length c1, .slice a2 m.us.length c2][k]?) ∧ (∀ k, W.cell? ⟨w1.heap.size, k, none⟩ = #[.slice sa sm.fs.length sc, .slice ua sm.us.length uc][k]?))) (by kernel_rfl) ?_ (fun hHeld => ?_)
      · exact HSK.out _ (below_drew1 _)
      refine wpAnyH_take (i := 0) (v := ?_) rfl (by kernel_rfl) (by kernel_rfl) (by kernel_rfl) (fun _ _ _ h => h) (Or.inl ⟨by rfl, ?_⟩) (by assumption) ?_
      rotate_left
      · (intro w hSw; (try dsimp only at hSw); go_simp; (try with_reducible rfl))
      try simp only [Act.put, List.getElem_toArray, List.getElem_cons_succ, List.getElem_cons_zero, List.setIfInBounds_toArray, List.set_cons_zero, List.set_cons_succ]
      refine wpAnyH_take (i := 1) (v := ?_) rfl (by kernel_rfl) (by kernel_rfl) (by kernel_rfl) (fun _ _ _ h => h) (Or.inl ⟨by rfl, ?_⟩) (by assumption) ?_
      rotate_left
      · (intro w hSw; (try dsimp only at hSw); go_simp; (try with_reducible rfl))
      try simp only [Act.put, List.getElem_toArray, List.getElem_cons_succ, List.getElem_cons_zero, List.setIfInBounds_toArray, List.set_cons_zero, List.set_cons_succ]
      refine wpAnyH_take (i := 2) (v := ?_) rfl (by kernel_rfl) (by kernel_rfl) (by kernel_rfl) (fun _ _ _ h => h) (Or.inl ⟨by rfl, ?_⟩) (by assumption) ?_
      rotate_left
      · (intro w hSw; (try dsimp only at hSw); go_simp; (try with_reducible rfl))
      try simp only [Act.put, List.getElem_toArray, List.getElem_cons_succ, List.getElem_cons_zero, List.setIfInBounds_toArray, List.set_cons_zero, List.set_cons_succ]
      refine wpAnyH_take (i := 3) (v := ?_) rfl (by kernel_rfl) (by kernel_rfl) (by kernel_rfl) (fun _ _ _ h => h) (Or.inl ⟨by rfl, ?_⟩) (by assumption) ?_
      rotate_left
      · (intro w hSw; (try dsimp only at hSw); go_simp; (try with_reducible rfl))
      try simp only [Act.put, List.getElem_toArray, List.getElem_cons_succ, List.getElem_cons_zero, List.setIfInBounds_toArray, List.set_cons_zero, List.set_cons_succ]
      refine wpAnyH_take (i := 4) (v := ?_) rfl (by kernel_rfl) (by kernel_rfl) (by kernel_rfl) (fun _ _ _ h => h) (Or.inl ⟨by rfl, ?_⟩) (by assumption) ?_
      rotate_left
      · (intro w hSw; (try dsimp only at hSw); go_simp; (try with_reducible rfl))
      try simp only [Act.put, List.getElem_toArray, List.getElem_cons_succ, List.getElem_cons_zero, List.setIfInBounds_toArray, List.set_cons_zero, List.set_cons_succ]
      refine wpAnyH_take (i := 5) (v := ?_) rfl (by kernel_rfl) (by kernel_rfl) (by kernel_rfl) (fun _ _ _ h => h) (Or.inl ⟨by rfl, ?_⟩) (by assumption) ?_
      rotate_left
      · (intro w hSw; (try dsimp only at hSw); go_simp; (try with_reducible rfl))
      try simp only [Act.put, List.getElem_toArray, List.getElem_cons_succ, List.getElem_cons_zero, List.setIfInBounds_toArray, List.set_cons_zero, List.set_cons_succ]
      refine wpAnyH_take (i := 6) (v := ?_) rfl (by kernel_rfl) (by kernel_rfl) (by kernel_rfl) (fun _ _ _ h => h) (Or.inl ⟨by rfl, ?_⟩) (by assumption) ?_
      rotate_left
      · (intro w hSw; (try dsimp only at hSw); go_simp; (try with_reducible rfl))
      try simp only [Act.put, List.getElem_toArray, List.getElem_cons_succ, List.getElem_cons_zero, List.setIfInBounds_toArray, List.set_cons_zero, List.set_cons_succ]
      refine wpAnyH_ready (rs := [7]) (by kernel_rfl) (by simp) ?_
      refine AllReadyH.cons rfl (fun K hK => ?_) AllReadyH.nil
      go_simp
      go_wp2_with (go_at_call 23; refine (H6.out _ (below_trans HB.out (below_drew1 _))).mono ?_; rintro e u2 ⟨ds, rfl, hn, hbu⟩; have K2 : Hid (Below w4.heap.size w4 u2) := hid (bl_then (below_drew1 _) hbu); have HN2 : Hid (MsgE u2 AnyZ d ds sm) := hid hn.any; clear hbu hn; obtain ⟨fa3, fc3, ua3, uc3, rfl, -⟩ := msg_openD HN2.out)
      refine hK.out _ _ ?_ (fun hHeld => ?_)
      · first | assumption | exact HSK.out _ K2.out
      clear hK K
      try simp only [Act.put, List.getElem_toArray, List.getElem_cons_succ, List.getElem_cons_zero, List.setIfInBounds_toArray, List.set_cons_zero, List.set_cons_succ]
      refine wpAnyH_ready (rs := [8]) (by kernel_rfl) (by simp) ?_
      refine AllReadyH.cons rfl (fun K hK => ?_) AllReadyH.nil
      go_simp
      go_wp2_with (go_at_call 22; refine (equalD d u2 AnyZ AnyZ _ _ sm sm (MsgE.kept HN.out K2.out) HN2.out).mono ?_; rintro e u3 ⟨r, rfl, hr, hbu⟩; have K3 : Hid (Below w4.heap.size w4 u3) := hid (bl_then K2.out hbu); obtain rfl : r = true := hr.2 rfl; clear hbu hr)
      refine hK.out _ _ ?_ (fun hHeld => ?_)
      · first | assumption | exact HSK.out _ K3.out
      clear hK K
      try simp only [Act.put, List.getElem_toArray, List.getElem_cons_succ, List.getElem_cons_zero, List.setIfInBounds_toArray, List.set_cons_zero, List.set_cons_succ]
      refine wpAnyH_take (i := 9) (v := ?_) rfl (by kernel_rfl) (by kernel_rfl) (by kernel_rfl) (fun _ _ _ h => h) (Or.inl ⟨by rfl, ?_⟩) (by assumption) ?_
      rotate_left
      · (intro w hSw; (try dsimp only at hSw); go_simp; (try with_reducible rfl))
      try simp only [Act.put, List.getElem_toArray, List.getElem_cons_succ, List.getElem_cons_zero, List.setIfInBounds_toArray, List.set_cons_zero, List.set_cons_succ]
      refine wpAnyH_take (i := 10) (v := ?_) rfl (by kernel_rfl) (by kernel_rfl) (by kernel_rfl) (fun _ _ _ h => h) (Or.inl ⟨by rfl, ?_⟩) (by assumption) ?_
      rotate_left
      · (intro w hSw; (try dsimp only at hSw); go_simp; (try with_reducible rfl))
      try simp only [Act.put, List.getElem_toArray, List.getElem_cons_succ, List.getElem_cons_zero, List.setIfInBounds_toArray, List.set_cons_zero, List.set_cons_succ]
      refine wpAnyH_done (by kernel_rfl) ?_ _
      go_wp2
      go_ret
      exact ⟨rfl, below_trans HB.out K3.out⟩
end Go.Proofs.YtnfdlnelfnigdaaGreatDoor
namespace Go.Proofs.YtnfdlnelfnigdaaGreatDoor
open Go.ChangeShapes Go.WideShapes Go.ChangeAt Go.RowKit Go.Deep
set_option maxRecDepth 1000000
section
variable {H : Type}
theorem bulk_one (d : DataW H) : 1 ≤ Rows.uptoBulk d := by
  cases d with
  | lit l => cases l <;> simp [Rows.uptoBulk]
  | nil => simp [Rows.uptoBulk]
  | ptr d => simp [Rows.uptoBulk]
  | slice elems spare => simp [Rows.uptoBulk]
  | agg parts => simp [Rows.uptoBulk]
  | iface t d => simp [Rows.uptoBulk]
  | map entries => simp [Rows.uptoBulk]
  | held h => simp [Rows.uptoBulk]
theorem bulk_length (l : List (DataW H)) : l.length ≤ Rows.uptoBulkAll l := by
  induction l with
  | nil => simp [Rows.uptoBulkAll]
  | cons x r ih => have := bulk_one x; simp only [Rows.uptoBulkAll, List.length_cons]; omega
theorem small_le {l : List (DataW H)} (hk : Rows.uptoSmall H l = true) : Rows.uptoBulkAll l ≤ 1048576 := of_decide_eq_true hk
end
/-- The numbers of a string's bytes. -/
def numsS (s : ByteArray) : List Int := s.data.toList.map fun b => (b.toNat : Int)
theorem numsS_str (s : ByteArray) : strOfNums (numsS s) = s := by
  apply ByteArray.ext
  apply Array.ext'
  simp [strOfNums, numsS, Function.comp_def]
theorem numsS_bd (s : ByteArray) : ∀ x ∈ numsS s, 0 ≤ x ∧ x ≤ 255 := by
  intro x hx
  obtain ⟨b, _, rfl⟩ := List.mem_map.1 hx
  have := b.toNat_lt
  omega
theorem numsS_len (s : ByteArray) : (numsS s).length = s.data.toList.length := by simp [numsS]
end Go.Proofs.YtnfdlnelfnigdaaGreatDoor
namespace Go.Proofs.YtnfdlnelfnigdaaGreatDoor
open Go.ChangeShapes Go.WideShapes Go.ChangeAt Go.RowKit Go.Deep
set_option maxRecDepth 1000000
set_option linter.unusedVariables false
set_option linter.unusedSimpArgs false
set_option maxHeartbeats 1000000
section
variable {H : Type} {enc : TypeId × Value → H} {W : World} {spare : Nat → Bool} {held : Bool}
/-- A struct of fields of one cell each, opened. -/
theorem struct_open {t : TypeId} {fs : Array Field} (ht : Tryz.prog.underlying t = some (.struct fs)) (hone : oneCellFields Tryz.prog fs = true) (hsz : Tryz.prog.cellsOf t = fs.size) {fuel : Nat} {cs : List Value} {y : DataW H × List MemPlace} (h : DataW.trod enc Tryz.prog W 0 spare held fuel t cs = some y) :
    ∃ (xs : List (DataW H × List MemPlace)) (n : Nat), y.1 = .agg (xs.map (·.1)) ∧ xs.length = fs.size ∧ cs.length = fs.size ∧ ∀ (i : Nat) (f : Field), fs[i]? = some f → ∃ v yi, cs[i]? = some v ∧ xs[i]? = some yi ∧ DataW.trod enc Tryz.prog W 0 spare held n f.type [v] = some yi := by
  obtain ⟨xs, n, _, rfl, hl, hlen, hf⟩ := DataW.trod_struct ht h
  refine ⟨xs, n, rfl, hlen, hl.trans hsz, fun i f hi => ?_⟩
  have hlt : i < fs.size := (Array.getElem?_eq_some_iff.1 hi).1
  obtain ⟨o1, o2⟩ := hone_of hone i f hi
  have hc : i < cs.length := by omega
  have hx : i < xs.length := by omega
  refine ⟨cs[i], xs[i], by simp [hc], by simp [hx], ?_⟩
  have := hf i f hi
  have e : (cs.drop i).take 1 = [cs[i]] := by rw [List.drop_eq_getElem_cons hc]; rfl
  rw [o1, o2, e] at this
  rw [this]
  simp [hx]
theorem bulk_mem {l : List (DataW H)} {d : DataW H} (h : d ∈ l) : Rows.uptoBulk d ≤ Rows.uptoBulkAll l := by
  induction l with
  | nil => cases h
  | cons x r ih =>
    simp only [Rows.uptoBulkAll]
    rcases List.mem_cons.1 h with rfl | h
    · omega
    · have := ih h; omega
theorem bulk_get {xs : List (DataW H × List MemPlace)} {i : Nat} {y : DataW H × List MemPlace} (h : xs[i]? = some y) : Rows.uptoBulk y.1 + 1 ≤ Rows.uptoBulk (DataW.agg (xs.map (·.1))) := by
  have := bulk_mem (l := xs.map (·.1)) (d := y.1) (List.mem_map.2 ⟨y, List.mem_of_getElem? h, rfl⟩)
  simp only [Rows.uptoBulk]
  omega
/-- A row of structs, opened. -/
theorem rows_open {α : Type} (g : α → List Value) (K : Nat) (hK0 : 0 < K) (Q : α → DataW H → Prop) {t e : TypeId} (ht : Tryz.prog.underlying t = some (.slice e)) (hK : Tryz.prog.cellsOf e = K) (hg : ∀ x, (g x).length = K)
    (hel : ∀ (n : Nat) (cs : List Value) (y : DataW H × List MemPlace), DataW.trod enc Tryz.prog W 0 spare held n e cs = some y → ∃ x, cs = g x ∧ Q x y.1) {fuel : Nat} {v : Value} {y : DataW H × List MemPlace} (hf : DataW.trod enc Tryz.prog W 0 spare held fuel t [v] = some y) :
    ∃ (a : Option Addr) (cap : Nat) (xs : List α), v = .slice a xs.length cap ∧ RowS W AnyZ K v xs.length (xs.flatMap g) ∧ xs.length + 1 ≤ Rows.uptoBulk y.1 ∧ ∀ x ∈ xs, ∃ d, Q x d ∧ Rows.uptoBulk d ≤ Rows.uptoBulk y.1 := by
  rcases open_slice ht hf with ⟨hcs, rfl⟩ | ⟨a, len, cap, m, n, D, Pl, hcs, _, hl, hm, hmm, rfl, hx⟩
  · simp at hcs
    subst hcs
    exact ⟨none, 0, [], rfl, rowS_nil _ _ _, by simp [Rows.uptoBulk], fun x hx => by cases hx⟩
  · simp at hcs
    subst hcs
    rw [hK] at hx
    have hlm : len ≤ m := by rw [hmm]; split <;> omega
    have hc : ∀ i, i < len → ∃ x : α, W.cells? 0 (a.add (i * K)) K = some (g x) ∧ Q x (D i) := fun i hi => by
      obtain ⟨cs', h1, h2⟩ := hx i (by omega)
      obtain ⟨x, rfl, hq⟩ := hel _ _ _ h2
      exact ⟨x, h1, hq⟩
    obtain ⟨xs, hxl, hxs⟩ : ∃ xs : List α, xs.length = len ∧ ∀ i (h : i < xs.length), W.cells? 0 (a.add (i * K)) K = some (g xs[i]) ∧ Q xs[i] (D i) := by
      clear hx hl hlm hmm hf
      induction len with
      | zero => exact ⟨[], rfl, fun i h => by simp at h⟩
      | succ k ih =>
        obtain ⟨xs, h1, h2⟩ := ih (fun i hi => hc i (by omega))
        obtain ⟨x, h3, h4⟩ := hc k (by omega)
        refine ⟨xs ++ [x], by simp [h1], fun i h => ?_⟩
        by_cases e : i < xs.length
        · rw [List.getElem_append_left e]; exact h2 i e
        · have ei : i = k := by simp at h; omega
          subst ei
          rw [List.getElem_append_right (by omega)]
          simp [h1, h3, h4]
    subst hxl
    have hb : ∀ i, i < xs.length → D i ∈ (List.range xs.length).map D := fun i hi => List.mem_map.2 ⟨i, List.mem_range.2 hi, rfl⟩
    refine ⟨some a, cap, xs, rfl, ⟨some a, cap, rfl, flatM_len hg xs, hl, by unfold maxLen at hm; omega, ?_⟩, ?_, fun x hxm => ?_⟩
    · by_cases h0 : xs.length = 0
      · exact .inl ⟨h0, fun e => by cases e⟩
      · obtain ⟨b, off, spot⟩ := a
        have hspot : spot = none := by
          have h1 := (World.cells?_some (hxs 0 (by omega)).1).2.2 0 hK0
          have h2 : (g xs[0])[0]? = some ((g xs[0])[0]'(by rw [hg]; exact hK0)) := by simp
          rw [h2] at h1
          simpa [Addr.add] using World.cell?_spot h1
        subst hspot
        refine .inr ⟨b, off, rfl, trivial, fun j u hu => ?_⟩
        have hj : j < xs.length * K := by rw [← flatM_len hg xs]; exact (List.getElem?_eq_some_iff.1 hu).1
        have hi : j / K < xs.length := (Nat.div_lt_iff_lt_mul hK0).2 hj
        have hr : j % K < K := Nat.mod_lt _ hK0
        have hjj : j / K * K + j % K = j := by rw [Nat.mul_comm]; exact Nat.div_add_mod j K
        have h2 : (g xs[j / K])[j % K]? = some ((g xs[j / K])[j % K]'(by rw [hg]; exact hr)) := by simp
        have h3 := flatM_get hg xs (j / K) (j % K) xs[j / K] _ (by simp [hi]) h2
        rw [hjj] at h3
        rw [h3] at hu
        have h1 := (World.cells?_some (hxs (j / K) hi).1).2.2 (j % K) hr
        have hadd : ((⟨b, off, none⟩ : Addr).add (j / K * K)).add (j % K) = ⟨b, off + j, none⟩ := by
          have e1 : ∀ (o i : Nat), (⟨b, o, none⟩ : Addr).add i = ⟨b, o + i, none⟩ := fun o i => by unfold Addr.add; split <;> simp_all
          rw [e1, e1, Nat.add_assoc, hjj]
        rw [hadd, h2] at h1
        rw [h1]
        exact hu
    · simp only [Rows.uptoBulk]
      have := bulk_length ((List.range xs.length).map D)
      simp at this
      omega
    · obtain ⟨i, hi, rfl⟩ := List.mem_iff_getElem.1 hxm
      refine ⟨D i, (hxs i hi).2, ?_⟩
      have := bulk_mem (hb i hi)
      simp only [Rows.uptoBulk]
      omega
/-- What a text that was read is. -/
def okX (b : Nat) (x : List Int) : Prop := TxA x ∧ x.length + 1 ≤ b
theorem str_open {n : Nat} {v : Value} {y : DataW H × List MemPlace} (h : DataW.trod enc Tryz.prog W 0 spare held n 9 [v] = some y) : ∃ x : List Int, v = .string (strOfNums x) ∧ okX (Rows.uptoBulk y.1) x := by
  obtain ⟨s, e, rfl, hs⟩ := DataW.trod_string Tryz.underlying9 h
  simp at e
  subst e
  refine ⟨numsS s, by rw [numsS_str], ⟨numsS_bd s, ?_⟩, ?_⟩
  · rw [numsS_len]
    unfold maxLen at hs
    simpa using hs
  · rw [numsS_len]
    simp [Rows.uptoBulk]
theorem int_open {n : Nat} {v : Value} {y : DataW H × List MemPlace} (h : DataW.trod enc Tryz.prog W 0 spare held n 3 [v] = some y) : ∃ x : Int, v = .int .i64 x ∧ I64 x := by
  obtain ⟨x, e, rfl, hs⟩ := DataW.trod_int Tryz.underlying3 h
  simp at e
  subst e
  refine ⟨x, rfl, ?_⟩
  unfold I64
  simp [Lit.wf, IntKind.min, IntKind.max, IntKind.signed, IntKind.bits] at hs
  omega
end
end Go.Proofs.YtnfdlnelfnigdaaGreatDoor
namespace Go.Proofs.YtnfdlnelfnigdaaGreatDoor
open Go.ChangeShapes Go.WideShapes Go.ChangeAt Go.RowKit Go.Deep
set_option maxRecDepth 1000000
set_option linter.unusedVariables false
set_option linter.unusedSimpArgs false
set_option maxHeartbeats 1000000
theorem fieldsF : ∃ f0 f1 f2 f3 f4 f5 f6, Tryz.prog.underlying 77 = some (.struct #[f0, f1, f2, f3, f4, f5, f6]) ∧ oneCellFields Tryz.prog #[f0, f1, f2, f3, f4, f5, f6] = true ∧ Tryz.prog.cellsOf 77 = 7 ∧ f0.type = 9 ∧ f1.type = 3 ∧ f2.type = 3 ∧ f3.type = 3 ∧ f4.type = 3 ∧ f5.type = 3 ∧ f6.type = 3 :=
  ⟨_, _, _, _, _, _, _, Tryz.underlying77, by kernel_rfl, by kernel_rfl, by kernel_rfl, by kernel_rfl, by kernel_rfl, by kernel_rfl, by kernel_rfl, by kernel_rfl, by kernel_rfl⟩
theorem fieldsS : ∃ f0 f1, Tryz.prog.underlying 75 = some (.struct #[f0, f1]) ∧ oneCellFields Tryz.prog #[f0, f1] = true ∧ Tryz.prog.cellsOf 75 = 2 ∧ f0.type = 9 ∧ f1.type = 3 :=
  ⟨_, _, Tryz.underlying75, by kernel_rfl, by kernel_rfl, by kernel_rfl, by kernel_rfl⟩
theorem fieldsR : ∃ f0 f1, Tryz.prog.underlying 155 = some (.struct #[f0, f1]) ∧ oneCellFields Tryz.prog #[f0, f1] = true ∧ Tryz.prog.cellsOf 155 = 2 ∧ f0.type = 3 ∧ f1.type = 3 :=
  ⟨_, _, Tryz.underlying155, by kernel_rfl, by kernel_rfl, by kernel_rfl, by kernel_rfl⟩
theorem fieldsT : ∃ f0 f1 f2 f3 f4 f5, Tryz.prog.underlying 66 = some (.struct #[f0, f1, f2, f3, f4, f5]) ∧ oneCellFields Tryz.prog #[f0, f1, f2, f3, f4, f5] = true ∧ Tryz.prog.cellsOf 66 = 6 ∧ f0.type = 9 ∧ f1.type = 4 ∧ f2.type = 61 ∧ f3.type = 62 ∧ f4.type = 63 ∧ f5.type = 64 :=
  ⟨_, _, _, _, _, _, Tryz.underlying66, by kernel_rfl, by kernel_rfl, by kernel_rfl, by kernel_rfl, by kernel_rfl, by kernel_rfl, by kernel_rfl, by kernel_rfl⟩
theorem list_eq {cs : List Value} : ∀ (l : List Value), cs.length = l.length → (∀ (i : Nat) (v : Value), l[i]? = some v → cs[i]? = some v) → cs = l := fun l hl h => by
  apply List.ext_getElem? 
  intro i
  by_cases hi : i < l.length
  · rw [h i l[i] (by simp [hi])]; simp [hi]
  · rw [List.getElem?_eq_none (by omega), List.getElem?_eq_none (by omega)]
section
variable {H : Type} {enc : TypeId × Value → H} {W : World} {spare : Nat → Bool} {held : Bool}
theorem ft_open (n : Nat) (cs : List Value) (y : DataW H × List MemPlace) (h : DataW.trod enc Tryz.prog W 0 spare held n 77 cs = some y) : ∃ x : FT, cs = cFT x ∧ okX (Rows.uptoBulk y.1) x.name := by
  obtain ⟨f0, f1, f2, f3, f4, f5, f6, hs, hone, hsz, t0, t1, t2, t3, t4, t5, t6⟩ := fieldsF
  obtain ⟨xs, m, hy, hxl, hcl, hi⟩ := struct_open hs hone hsz h
  obtain ⟨v0, y0, c0, x0, h0⟩ := hi 0 f0 rfl
  rw [t0] at h0
  obtain ⟨v1, y1, c1, x1, h1⟩ := hi 1 f1 rfl
  rw [t1] at h1
  obtain ⟨v2, y2, c2, x2, h2⟩ := hi 2 f2 rfl
  rw [t2] at h2
  obtain ⟨v3, y3, c3, x3, h3⟩ := hi 3 f3 rfl
  rw [t3] at h3
  obtain ⟨v4, y4, c4, x4, h4⟩ := hi 4 f4 rfl
  rw [t4] at h4
  obtain ⟨v5, y5, c5, x5, h5⟩ := hi 5 f5 rfl
  rw [t5] at h5
  obtain ⟨v6, y6, c6, x6, h6⟩ := hi 6 f6 rfl
  rw [t6] at h6
  obtain ⟨a0, rfl, k0⟩ := str_open h0
  obtain ⟨a1, rfl, k1⟩ := int_open h1
  obtain ⟨a2, rfl, k2⟩ := int_open h2
  obtain ⟨a3, rfl, k3⟩ := int_open h3
  obtain ⟨a4, rfl, k4⟩ := int_open h4
  obtain ⟨a5, rfl, k5⟩ := int_open h5
  obtain ⟨a6, rfl, k6⟩ := int_open h6
  refine ⟨⟨a0, a1, a2, a3, a4, a5, a6⟩, list_eq _ (by rw [hcl]; rfl) fun i v hv => ?_, k0.1, ?_⟩
  · match i, hv with
    | 0, hv => simp [cFT] at hv; subst hv; exact c0
    | 1, hv => simp [cFT] at hv; subst hv; exact c1
    | 2, hv => simp [cFT] at hv; subst hv; exact c2
    | 3, hv => simp [cFT] at hv; subst hv; exact c3
    | 4, hv => simp [cFT] at hv; subst hv; exact c4
    | 5, hv => simp [cFT] at hv; subst hv; exact c5
    | 6, hv => simp [cFT] at hv; subst hv; exact c6
    | i + 7, hv => simp [cFT] at hv
  · have := bulk_get x0
    rw [hy]
    have := k0.2
    dsimp only
    omega
theorem sy_open (n : Nat) (cs : List Value) (y : DataW H × List MemPlace) (h : DataW.trod enc Tryz.prog W 0 spare held n 75 cs = some y) : ∃ x : SY, cs = cSY x ∧ (okX (Rows.uptoBulk y.1) x.name ∧ I64 x.num) := by
  obtain ⟨f0, f1, hs, hone, hsz, t0, t1⟩ := fieldsS
  obtain ⟨xs, m, hy, hxl, hcl, hi⟩ := struct_open hs hone hsz h
  obtain ⟨v0, y0, c0, x0, h0⟩ := hi 0 f0 rfl
  rw [t0] at h0
  obtain ⟨v1, y1, c1, x1, h1⟩ := hi 1 f1 rfl
  rw [t1] at h1
  obtain ⟨a0, rfl, k0⟩ := str_open h0
  obtain ⟨a1, rfl, k1⟩ := int_open h1
  refine ⟨⟨a0, a1⟩, list_eq _ (by rw [hcl]; rfl) fun i v hv => ?_, ⟨k0.1, ?_⟩, k1⟩
  · match i, hv with
    | 0, hv => simp [cSY] at hv; subst hv; exact c0
    | 1, hv => simp [cSY] at hv; subst hv; exact c1
    | i + 2, hv => simp [cSY] at hv
  · have := bulk_get x0
    rw [hy]
    have := k0.2
    dsimp only
    omega
theorem rg_open (n : Nat) (cs : List Value) (y : DataW H × List MemPlace) (h : DataW.trod enc Tryz.prog W 0 spare held n 155 cs = some y) : ∃ x : RG, cs = cRG x ∧ True := by
  obtain ⟨f0, f1, hs, hone, hsz, t0, t1⟩ := fieldsR
  obtain ⟨xs, m, hy, hxl, hcl, hi⟩ := struct_open hs hone hsz h
  obtain ⟨v0, y0, c0, x0, h0⟩ := hi 0 f0 rfl
  rw [t0] at h0
  obtain ⟨v1, y1, c1, x1, h1⟩ := hi 1 f1 rfl
  rw [t1] at h1
  obtain ⟨a0, rfl, k0⟩ := int_open h0
  obtain ⟨a1, rfl, k1⟩ := int_open h1
  refine ⟨⟨a0, a1⟩, list_eq _ (by rw [hcl]; rfl) fun i v hv => ?_, trivial⟩
  match i, hv with
  | 0, hv => simp [cRG] at hv; subst hv; exact c0
  | 1, hv => simp [cRG] at hv; subst hv; exact c1
  | i + 2, hv => simp [cRG] at hv
theorem st_open (n : Nat) (cs : List Value) (y : DataW H × List MemPlace) (h : DataW.trod enc Tryz.prog W 0 spare held n 9 cs = some y) : ∃ x : List Int, cs = cN x ∧ okX (Rows.uptoBulk y.1) x := by
  obtain ⟨s, e, _⟩ := DataW.trod_string Tryz.underlying9 h
  subst e
  obtain ⟨x, e, k⟩ := str_open h
  exact ⟨x, by rw [e]; rfl, k⟩
theorem tv_open (n : Nat) (cs : List Value) (y : DataW H × List MemPlace) (h : DataW.trod enc Tryz.prog W 0 spare held n 66 cs = some y) : ∃ x : TV, cs = cTV x ∧ (TyR W x ∧ (Rows.uptoBulk y.1 ≤ 1048576 → OkV x ∧ x.t.name.length < 4000000)) := by
  obtain ⟨f0, f1, f2, f3, f4, f5, hs, hone, hsz, t0, t1, t2, t3, t4, t5⟩ := fieldsT
  obtain ⟨xs, m, hy, hxl, hcl, hi⟩ := struct_open hs hone hsz h
  obtain ⟨v0, y0, c0, x0, h0⟩ := hi 0 f0 rfl
  rw [t0] at h0
  have b0 := bulk_get x0
  obtain ⟨v1, y1, c1, x1, h1⟩ := hi 1 f1 rfl
  rw [t1] at h1
  have b1 := bulk_get x1
  obtain ⟨v2, y2, c2, x2, h2⟩ := hi 2 f2 rfl
  rw [t2] at h2
  have b2 := bulk_get x2
  obtain ⟨v3, y3, c3, x3, h3⟩ := hi 3 f3 rfl
  rw [t3] at h3
  have b3 := bulk_get x3
  obtain ⟨v4, y4, c4, x4, h4⟩ := hi 4 f4 rfl
  rw [t4] at h4
  have b4 := bulk_get x4
  obtain ⟨v5, y5, c5, x5, h5⟩ := hi 5 f5 rfl
  rw [t5] at h5
  have b5 := bulk_get x5
  rw [← hy] at b0 b1 b2 b3 b4 b5
  obtain ⟨a0, rfl, k0⟩ := str_open h0
  obtain ⟨e1, he1, _⟩ := DataW.trod_bool Tryz.underlying4 h1
  simp at he1
  subst he1
  obtain ⟨fa, fc, fs, rfl, rf, lf, qf⟩ := rows_open cFT 7 (by decide) (fun x d => okX (Rows.uptoBulk d) x.name) Tryz.underlying61 (by kernel_rfl) (fun _ => rfl) ft_open h2
  obtain ⟨oa, oc, os, rfl, ro, lo, qo⟩ := rows_open cN 1 (by decide) (fun x d => okX (Rows.uptoBulk d) x) Tryz.underlying62 (by kernel_rfl) (fun _ => rfl) st_open h3
  obtain ⟨sa, sc, ss, rfl, rs, ls, qs⟩ := rows_open cSY 2 (by decide) (fun x d => okX (Rows.uptoBulk d) x.name ∧ I64 x.num) Tryz.underlying63 (by kernel_rfl) (fun _ => rfl) sy_open h4
  obtain ⟨ra, rc, gs, rfl, rr, lr, qr⟩ := rows_open cRG 2 (by decide) (fun _ _ => True) Tryz.underlying64 (by kernel_rfl) (fun _ => rfl) rg_open h5
  refine ⟨⟨⟨a0, e1, fs, os, ss, gs⟩, _, _, _, _⟩, list_eq _ (by rw [hcl]; rfl) fun i v hv => ?_, ⟨rf, ro, rs, rr⟩, fun hb => ⟨⟨⟨k0.1, fun x hx => ?_, fun x hx => ?_, fun x hx => ?_⟩, ?_, ?_⟩, ?_⟩⟩
  · match i, hv with
    | 0, hv => simp [cTV] at hv; subst hv; exact c0
    | 1, hv => simp [cTV] at hv; subst hv; exact c1
    | 2, hv => simp [cTV] at hv; subst hv; exact c2
    | 3, hv => simp [cTV] at hv; subst hv; exact c3
    | 4, hv => simp [cTV] at hv; subst hv; exact c4
    | 5, hv => simp [cTV] at hv; subst hv; exact c5
    | i + 6, hv => simp [cTV] at hv
  · obtain ⟨d, hd, _⟩ := qf x hx
    exact hd.1
  · obtain ⟨d, hd, _⟩ := qo x hx
    exact hd.1
  · obtain ⟨d, hd, _⟩ := qs x hx
    exact ⟨hd.1.1, hd.2⟩
  · have := k0.2
    dsimp only
    omega
  · dsimp only
    omega
  · have := k0.2
    dsimp only
    omega
theorem fieldsB : ∃ f0, Tryz.prog.underlying 46 = some (.struct #[f0]) ∧ oneCellFields Tryz.prog #[f0] = true ∧ Tryz.prog.cellsOf 46 = 1 ∧ Tryz.prog.underlying f0.type = some (.slice 66) :=
  ⟨_, Tryz.underlying46, by kernel_rfl, by kernel_rfl, by kernel_rfl⟩
theorem tb_open {n : Nat} {v : Value} {y : DataW H × List MemPlace} (h : DataW.trod enc Tryz.prog W 0 spare held n 46 [v] = some y) : ∃ (a : Option Addr) (c : Nat) (l : List TV), v = .slice a l.length c ∧ TbR W (.slice a l.length c) l ∧ (Rows.uptoBulk y.1 ≤ 1048576 → ∀ x ∈ l, OkV x ∧ x.t.name.length < 4000000) := by
  obtain ⟨f0, hs, hone, hsz, t0⟩ := fieldsB
  obtain ⟨xs, m, hy, hxl, hcl, hi⟩ := struct_open hs hone hsz h
  obtain ⟨v0, y0, c0, x0, h0⟩ := hi 0 f0 rfl
  simp at c0
  subst c0
  have b0 := bulk_get x0
  rw [← hy] at b0
  obtain ⟨a, c, l, rfl, r, hl, q⟩ := rows_open cTV 6 (by decide) (fun x d => TyR W x ∧ (Rows.uptoBulk d ≤ 1048576 → OkV x ∧ x.t.name.length < 4000000)) t0 (by kernel_rfl) (fun _ => rfl) tv_open h0
  exact ⟨a, c, l, rfl, ⟨r, fun x hx => by obtain ⟨d, hd, _⟩ := q x hx; exact hd.1⟩, fun hb x hx => by obtain ⟨d, hd, hdb⟩ := q x hx; exact hd.2 (by omega)⟩
end
end Go.Proofs.YtnfdlnelfnigdaaGreatDoor
namespace Go.Proofs.YtnfdlnelfnigdaaGreatDoor
open Go.ChangeShapes Go.WideShapes Go.ChangeAt Go.RowKit Go.Deep
set_option maxRecDepth 1000000
set_option linter.unusedVariables false
set_option linter.unusedSimpArgs false
set_option maxHeartbeats 1000000
theorem fieldsMM : ∃ f0 f1, Tryz.prog.underlying 35 = some (.struct #[f0, f1]) ∧ oneCellFields Tryz.prog #[f0, f1] = true ∧ Tryz.prog.cellsOf 35 = 2 ∧ f0.type = 32 ∧ f1.type = 33 :=
  ⟨_, _, Tryz.underlying35, by kernel_rfl, by kernel_rfl, by kernel_rfl, by kernel_rfl⟩
theorem fieldsMF : ∃ f0 f1 f2, Tryz.prog.underlying 29 = some (.struct #[f0, f1, f2]) ∧ oneCellFields Tryz.prog #[f0, f1, f2] = true ∧ Tryz.prog.cellsOf 29 = 3 ∧ f0.type = 3 ∧ f1.type = 27 ∧ f2.type = 27 :=
  ⟨_, _, _, Tryz.underlying29, by kernel_rfl, by kernel_rfl, by kernel_rfl, by kernel_rfl, by kernel_rfl⟩
theorem fieldsMV : ∃ f0 f1 f2, Tryz.prog.underlying 26 = some (.struct #[f0, f1, f2]) ∧ oneCellFields Tryz.prog #[f0, f1, f2] = true ∧ Tryz.prog.cellsOf 26 = 3 ∧ f0.type = 22 ∧ f1.type = 23 ∧ f2.type = 24 :=
  ⟨_, _, _, Tryz.underlying26, by kernel_rfl, by kernel_rfl, by kernel_rfl, by kernel_rfl, by kernel_rfl⟩
theorem fieldsME : ∃ f0 f1 f2 f3, Tryz.prog.underlying 40 = some (.struct #[f0, f1, f2, f3]) ∧ oneCellFields Tryz.prog #[f0, f1, f2, f3] = true ∧ Tryz.prog.cellsOf 40 = 4 ∧ f0.type = 3 ∧ f1.type = 3 ∧ f2.type = 22 ∧ f3.type = 23 :=
  ⟨_, _, _, _, Tryz.underlying40, by kernel_rfl, by kernel_rfl, by kernel_rfl, by kernel_rfl, by kernel_rfl, by kernel_rfl⟩
section
variable {H : Type} {enc : TypeId × Value → H} {W : World} {spare : Nat → Bool} {held : Bool}
theorem u64_open {n : Nat} {v : Value} {y : DataW H × List MemPlace} (h : DataW.trod enc Tryz.prog W 0 spare held n 22 [v] = some y) : ∃ x : Int, v = .int .u64 x ∧ U64 x := by
  obtain ⟨x, e, rfl, hs⟩ := DataW.trod_int Tryz.underlying22 h
  simp at e
  subst e
  refine ⟨x, rfl, ?_⟩
  unfold U64
  simp [Lit.wf, IntKind.min, IntKind.max, IntKind.signed, IntKind.bits] at hs
  omega
theorem u8_open (n : Nat) (cs : List Value) (y : DataW H × List MemPlace) (h : DataW.trod enc Tryz.prog W 0 spare held n 5 cs = some y) : ∃ x : Int, cs = [.int .u8 x] ∧ (0 ≤ x ∧ x ≤ 255) := by
  obtain ⟨x, e, rfl, hs⟩ := DataW.trod_int Tryz.underlying5 h
  subst e
  refine ⟨x, rfl, ?_⟩
  simp [Lit.wf, IntKind.min, IntKind.max, IntKind.signed, IntKind.bits] at hs
  omega
theorem flat_one {α β : Type} (f : α → β) : ∀ l : List α, l.flatMap (fun x => [f x]) = l.map f
  | [] => rfl
  | x :: l => by rw [List.flatMap_cons, List.map_cons, flat_one f l]; rfl
theorem by_open {n : Nat} {v : Value} {y : DataW H × List MemPlace} (h : DataW.trod enc Tryz.prog W 0 spare held n 23 [v] = some y) (hb : Rows.uptoBulk y.1 ≤ 4000000) : ∃ b : List Int, ByE W AnyZ v b := by
  obtain ⟨a, c, xs, rfl, r, hl, q⟩ := rows_open (fun x : Int => [Value.int .u8 x]) 1 (by decide) (fun x _ => 0 ≤ x ∧ x ≤ 255) Tryz.underlying23 (by kernel_rfl) (fun _ => rfl) u8_open h
  rw [flat_one] at r
  exact ⟨xs, r, fun x hx => by obtain ⟨d, hd, _⟩ := q x hx; exact hd, by omega⟩
theorem rowM_open {α : Type} (x0 : α) (E : List Value → α → Prop) (K : Nat) (hK0 : 0 < K) (N : Nat) (hN : N ≤ 4000000) {t e : TypeId} (ht : Tryz.prog.underlying t = some (.slice e)) (hK : Tryz.prog.cellsOf e = K) (hlen : ∀ (n : Nat) (cs : List Value) (y : DataW H × List MemPlace), DataW.trod enc Tryz.prog W 0 spare held n e cs = some y → cs.length = K)
    (hel : ∀ (n : Nat) (cs : List Value) (y : DataW H × List MemPlace), DataW.trod enc Tryz.prog W 0 spare held n e cs = some y → Rows.uptoBulk y.1 ≤ N → ∃ x, E cs x) {n : Nat} {v : Value} {y : DataW H × List MemPlace} (hf : DataW.trod enc Tryz.prog W 0 spare held n t [v] = some y) (hb : Rows.uptoBulk y.1 ≤ N) : ∃ xs : List α, RowM W AnyZ K E v xs := by
  obtain ⟨a, c, xs, rfl, r, hl, q⟩ := rows_open (α := {p : List Value × α // p.1.length = K}) (fun p => p.1.1) K hK0 (fun p d => Rows.uptoBulk d ≤ N → E p.1.1 p.1.2) ht hK (fun p => p.2) (fun n cs y h => by
    by_cases hb : Rows.uptoBulk y.1 ≤ N
    · obtain ⟨x, hx⟩ := hel n cs y h hb
      exact ⟨⟨(cs, x), hlen n cs y h⟩, rfl, fun _ => hx⟩
    · exact ⟨⟨(cs, x0), hlen n cs y h⟩, rfl, fun g => absurd g hb⟩) hf
  refine ⟨xs.map (fun p => p.1.2), xs.map (fun p => (⟨p.1.1, p.2⟩ : Tup K)), ?_, by simp, by simp; omega, fun i t x h1 h2 => ?_⟩
  · rw [List.length_map, List.flatMap_map]
    exact r
  · rw [List.getElem?_map] at h1 h2
    cases hp : xs[i]? with
    | none => rw [hp] at h1; cases h1
    | some p =>
      rw [hp] at h1 h2
      simp only [Option.map_some, Option.some.injEq] at h1 h2
      subst h1 h2
      obtain ⟨d, hd, hdb⟩ := q p (List.mem_of_getElem? hp)
      exact hd (by omega)
theorem enB_len (n : Nat) (cs : List Value) (y : DataW H × List MemPlace) (h : DataW.trod enc Tryz.prog W 0 spare held n 40 cs = some y) : cs.length = 4 := by
  obtain ⟨f0, f1, f2, f3, hs, hone, hsz, -⟩ := fieldsME
  obtain ⟨xs, m, hy, hxl, hcl, hi⟩ := struct_open hs hone hsz h
  exact hcl
theorem vlB_len (n : Nat) (cs : List Value) (y : DataW H × List MemPlace) (h : DataW.trod enc Tryz.prog W 0 spare held n 26 cs = some y) : cs.length = 3 := by
  obtain ⟨f0, f1, f2, hs, hone, hsz, -⟩ := fieldsMV
  obtain ⟨xs, m, hy, hxl, hcl, hi⟩ := struct_open hs hone hsz h
  exact hcl
theorem flB_len (n : Nat) (cs : List Value) (y : DataW H × List MemPlace) (h : DataW.trod enc Tryz.prog W 0 spare held n 29 cs = some y) : cs.length = 3 := by
  obtain ⟨f0, f1, f2, hs, hone, hsz, -⟩ := fieldsMF
  obtain ⟨xs, m, hy, hxl, hcl, hi⟩ := struct_open hs hone hsz h
  exact hcl
theorem mgB_len (n : Nat) (cs : List Value) (y : DataW H × List MemPlace) (h : DataW.trod enc Tryz.prog W 0 spare held n 35 cs = some y) : cs.length = 2 := by
  obtain ⟨f0, f1, hs, hone, hsz, -⟩ := fieldsMM
  obtain ⟨xs, m, hy, hxl, hcl, hi⟩ := struct_open hs hone hsz h
  exact hcl
theorem en_open (N : Nat) (hN : N ≤ 4000000) (n : Nat) (cs : List Value) (y : DataW H × List MemPlace) (h : DataW.trod enc Tryz.prog W 0 spare held n 40 cs = some y) (hb : Rows.uptoBulk y.1 ≤ N) : ∃ x : CE, EntE W AnyZ cs x := by
  obtain ⟨f0, f1, f2, f3, hs, hone, hsz, t0, t1, t2, t3⟩ := fieldsME
  obtain ⟨xs, m, hy, hxl, hcl, hi⟩ := struct_open hs hone hsz h
  obtain ⟨v0, y0, c0, x0, h0⟩ := hi 0 f0 rfl
  obtain ⟨v1, y1, c1, x1, h1⟩ := hi 1 f1 rfl
  obtain ⟨v2, y2, c2, x2, h2⟩ := hi 2 f2 rfl
  obtain ⟨v3, y3, c3, x3, h3⟩ := hi 3 f3 rfl
  rw [t0] at h0
  rw [t1] at h1
  rw [t2] at h2
  rw [t3] at h3
  have b3 := bulk_get x3
  rw [← hy] at b3
  obtain ⟨a0, rfl, k0⟩ := int_open h0
  obtain ⟨a1, rfl, k1⟩ := int_open h1
  obtain ⟨a2, rfl, k2⟩ := u64_open h2
  obtain ⟨a3, k3⟩ := by_open h3 (by omega)
  refine ⟨⟨a0, a1, a2, a3⟩, v3, list_eq _ (by rw [hcl]; rfl) fun i v hv => ?_, k3, k0, k1, k2⟩
  match i, hv with
  | 0, hv => simp at hv; subst hv; exact c0
  | 1, hv => simp at hv; subst hv; exact c1
  | 2, hv => simp at hv; subst hv; exact c2
  | 3, hv => simp at hv; subst hv; exact c3
  | i + 4, hv => simp at hv
theorem vl_open (R : List Value → CM → Prop) (N : Nat) (hN : N ≤ 4000000) (IH : ∀ (n : Nat) (cs : List Value) (y : DataW H × List MemPlace), DataW.trod enc Tryz.prog W 0 spare held n 35 cs = some y → Rows.uptoBulk y.1 ≤ N → ∃ m, R cs m) (n : Nat) (cs : List Value) (y : DataW H × List MemPlace) (h : DataW.trod enc Tryz.prog W 0 spare held n 26 cs = some y) (hb : Rows.uptoBulk y.1 ≤ N) : ∃ x : CV CM, ValE W AnyZ R cs x := by
  obtain ⟨f0, f1, f2, hs, hone, hsz, t0, t1, t2⟩ := fieldsMV
  obtain ⟨xs, m, hy, hxl, hcl, hi⟩ := struct_open hs hone hsz h
  obtain ⟨v0, y0, c0, x0, h0⟩ := hi 0 f0 rfl
  obtain ⟨v1, y1, c1, x1, h1⟩ := hi 1 f1 rfl
  obtain ⟨v2, y2, c2, x2, h2⟩ := hi 2 f2 rfl
  rw [t0] at h0
  rw [t1] at h1
  rw [t2] at h2
  have b1 := bulk_get x1
  have b2 := bulk_get x2
  rw [← hy] at b1 b2
  obtain ⟨a0, rfl, k0⟩ := u64_open h0
  obtain ⟨a1, k1⟩ := by_open h1 (by omega)
  obtain ⟨a2, k2⟩ := rowM_open (CM.mk [] []) R 2 (by decide) N hN Tryz.underlying24 (by kernel_rfl) mgB_len IH h2 (by omega)
  refine ⟨⟨a0, a1, a2⟩, v1, v2, list_eq _ (by rw [hcl]; rfl) fun i v hv => ?_, k1, k2, k0⟩
  match i, hv with
  | 0, hv => simp at hv; subst hv; exact c0
  | 1, hv => simp at hv; subst hv; exact c1
  | 2, hv => simp at hv; subst hv; exact c2
  | i + 3, hv => simp at hv
theorem fl_open (R : List Value → CM → Prop) (N : Nat) (hN : N ≤ 4000000) (IH : ∀ (n : Nat) (cs : List Value) (y : DataW H × List MemPlace), DataW.trod enc Tryz.prog W 0 spare held n 35 cs = some y → Rows.uptoBulk y.1 ≤ N → ∃ m, R cs m) (n : Nat) (cs : List Value) (y : DataW H × List MemPlace) (h : DataW.trod enc Tryz.prog W 0 spare held n 29 cs = some y) (hb : Rows.uptoBulk y.1 ≤ N) : ∃ x : CF CM, FldE W AnyZ R cs x := by
  obtain ⟨f0, f1, f2, hs, hone, hsz, t0, t1, t2⟩ := fieldsMF
  obtain ⟨xs, m, hy, hxl, hcl, hi⟩ := struct_open hs hone hsz h
  obtain ⟨v0, y0, c0, x0, h0⟩ := hi 0 f0 rfl
  obtain ⟨v1, y1, c1, x1, h1⟩ := hi 1 f1 rfl
  obtain ⟨v2, y2, c2, x2, h2⟩ := hi 2 f2 rfl
  rw [t0] at h0
  rw [t1] at h1
  rw [t2] at h2
  have b1 := bulk_get x1
  have b2 := bulk_get x2
  rw [← hy] at b1 b2
  obtain ⟨a0, rfl, k0⟩ := int_open h0
  obtain ⟨a1, k1⟩ := rowM_open (⟨0, [], []⟩ : CV CM) (ValE W AnyZ R) 3 (by decide) N hN Tryz.underlying27 (by kernel_rfl) vlB_len (vl_open R N hN IH) h1 (by omega)
  obtain ⟨a2, k2⟩ := rowM_open (⟨0, [], []⟩ : CV CM) (ValE W AnyZ R) 3 (by decide) N hN Tryz.underlying27 (by kernel_rfl) vlB_len (vl_open R N hN IH) h2 (by omega)
  refine ⟨⟨a0, a1, a2⟩, v1, v2, list_eq _ (by rw [hcl]; rfl) fun i v hv => ?_, k1, k2, k0⟩
  match i, hv with
  | 0, hv => simp at hv; subst hv; exact c0
  | 1, hv => simp at hv; subst hv; exact c1
  | 2, hv => simp at hv; subst hv; exact c2
  | i + 3, hv => simp at hv
/-- A message that comes in, so great at most, lies as it should, so deep at most. -/
theorem mg_open : ∀ (N : Nat), N ≤ 4000000 → ∀ (n : Nat) (cs : List Value) (y : DataW H × List MemPlace), DataW.trod enc Tryz.prog W 0 spare held n 35 cs = some y → Rows.uptoBulk y.1 ≤ N → ∃ m, MsgE W AnyZ N cs m
  | 0, _, n, cs, y, h, hb => absurd (bulk_one y.1) (by omega)
  | N + 1, hN, n, cs, y, h, hb => by
    obtain ⟨f0, f1, hs, hone, hsz, t0, t1⟩ := fieldsMM
    obtain ⟨xs, m, hy, hxl, hcl, hi⟩ := struct_open hs hone hsz h
    obtain ⟨v0, y0, c0, x0, h0⟩ := hi 0 f0 rfl
    obtain ⟨v1, y1, c1, x1, h1⟩ := hi 1 f1 rfl
    rw [t0] at h0
    rw [t1] at h1
    have b0 := bulk_get x0
    have b1 := bulk_get x1
    rw [← hy] at b0 b1
    obtain ⟨a0, k0⟩ := rowM_open (⟨0, [], []⟩ : CF CM) (FldE W AnyZ (MsgE W AnyZ N)) 3 (by decide) N (by omega) Tryz.underlying32 (by kernel_rfl) flB_len (fl_open _ N (by omega) (mg_open N (by omega))) h0 (by omega)
    obtain ⟨a1, k1⟩ := rowM_open (⟨0, 0, 0, []⟩ : CE) (EntE W AnyZ) 4 (by decide) N (by omega) Tryz.underlying33 (by kernel_rfl) enB_len (en_open N (by omega)) h1 (by omega)
    refine ⟨CM.mk a0 a1, v0, v1, list_eq _ (by rw [hcl]; rfl) fun i v hv => ?_, k0, k1⟩
    match i, hv with
    | 0, hv => simp at hv; subst hv; exact c0
    | 1, hv => simp at hv; subst hv; exact c1
    | i + 2, hv => simp at hv
end
end Go.Proofs.YtnfdlnelfnigdaaGreatDoor
namespace Go.Proofs.YtnfdlnelfnigdaaGreatDoor
open Go.ChangeShapes Go.WideShapes Go.ChangeAt Go.RowKit
set_option maxRecDepth 1000000
set_option maxRecDepth 100000
/-- The rows' list. -/
def laidL : List (String × DataW Unit) := [("unicode/utf8.acceptRanges", Rows.laid_unicode_utf8_acceptRanges), ("unicode/utf8.first", Rows.laid_unicode_utf8_first)]
theorem laid_plain {W : World} (h : laidMetH Tryz.prog laidL W) : laidMet Tryz.prog laidL W := h
/-- A block's cells laid anew. -/
noncomputable def layAt (g : Nat) (cs : Array Value) (w : World) : World := { w with heap := w.heap.modify g fun
      | .cells _ t frozen => .cells cs t frozen
      | o => o }
def numV : DataW Unit → Value
  | .lit (.int k n) => .int k n
  | _ => undef
def rowV : DataW Unit → List Value
  | .agg ds => ds.map numV
  | _ => []
def rowsV : DataW Unit → List Value
  | .agg ds => ds.flatMap rowV
  | _ => []
noncomputable def laidWorld (os : Os) : World :=
  layAt 2 (List.toArray (rowsV Rows.laid_unicode_utf8_acceptRanges)) (layAt 1 (List.toArray (rowV Rows.laid_unicode_utf8_first)) (World.holding Tryz.prog os ⟨#[], #[], []⟩))
theorem laid_met (os : Os) (args : Array Value) : laidMet Tryz.prog laidL ((laidWorld os).forCall (fun _ _ => 0) ⟨#[], args, []⟩).memory :=
  laidMet_of_run' 8 (by kernel_rfl) (by kernel_rfl)
theorem maxLen_cell {W : World} (h : W.ShapedOpen Tryz.prog) : ∃ m, W.cell? ⟨0, 0, none⟩ = some (.int .i64 m) :=
  Go.Proofs.cell_of_shapedOpen_int (zero := #[.int .i64 0]) (t := 3) h (of_decide_eq_true (by kernel_rfl)) (by kernel_rfl) rfl (by kernel_rfl) (by kernel_rfl) Tryz.underlying3
end Go.Proofs.YtnfdlnelfnigdaaGreatDoor
