/-
  ModelAlong: what is settled is normal and stays; what is set is there.
  What comes in, opened: strings; and what the bound on it says.
  A table that comes in, opened.
  A table that comes in, opened: fields, symbols, ranges, types.
-/
import Derived.Test.YtgephggcgopfgaaGreatDoorEBK
import Derived.Test.YtgephggcgopfgaaGreatDoorEDN
import Derived.Test.YtgephggcgopfgaaGreatDoorCTY
import Derived.ProofKit
import Derived.OpenShut
import Derived.ShutString
import Derived.Lib.SmallJoins
import Derived.Deep.Slices
import Derived.Deep.Fields
namespace Go.Proofs.YtgephggcgopfgaaGreatDoor
open Go.RowKit
set_option maxRecDepth 1000000
set_option linter.unusedVariables false
set_option linter.unusedSimpArgs false
set_option maxHeartbeats 1000000
theorem modelAlongW (w : World) (l : List TV) (ta : Option Addr) (tc : Nat) (h : TbR w (.slice ta l.length tc) l) (hk : ∀ x ∈ l, OkV x) (mx : Int) (hm0 : w.cell? ⟨0, 0, none⟩ = some (.int .i64 mx)) (idx : Int) (Z : Nat → Prop) (d : Nat) (hd : d + 1 ≤ 4000000) (cs cf : List Value) (m : CM) (f : CF CM) (hm : MsgE w Z (d + 1) cs m) (hf : FldE w Z (MsgE w Z d) cf f) : Calls Tryz.prog 8 #[.agg #[.slice ta l.length tc], .int .i64 idx, .agg cs.toArray, .agg cf.toArray] w fun e w' => e = .returned (.bool true) ∧ Below w.heap.size w w' := by
  have HT := hid h
  have HK := hid hk
  have HM0 := hid hm0
  have HMM := hid hm
  have HFF := hid hf
  have HAW := hid fun W (hW : Below w.heap.size w W) => awake8 W mx (cell_below hm0 hW)
  obtain ⟨a1, c1, a2, c2, rfl, -⟩ := msg_openD hm
  obtain ⟨ka, kc, va, vc, rfl, -⟩ := fld_open hf
  clear h hk hm0 hm hf
  cases q : isB l idx false with
  | false =>
    have H1 := hid fun W (hW : Below w.heap.size w W) => settleNo W l ta tc (HT.out.kept hW) HK.out mx (cell_below HM0.out hW) idx q a1 a2 m.fs.length c1 m.us.length c2
    have H2 := hid fun W (hW : Below w.heap.size w W) => normalNo W l ta tc (HT.out.kept hW) HK.out mx (cell_below HM0.out hW) idx q a1 a2 m.fs.length c1 m.us.length c2
    clear HT HK HM0 HMM HFF q
    go_enter Tryz.func8, Tryz.ntmps8
    go_wp2_with fail
    refine (HAW.out _ (by exact blBy)).mono ?_
    rintro e w1 ⟨rfl, hb⟩
    have hz : Below w.heap.size w w1 := bl_then (by exact blBy) hb
    have Bt : Hid (Blk w1 (w.heap.size) 46 #[.slice ta l.length tc]) := hid ((((Blk.new _ _ _).kept (below_alloc _)).kept (below_alloc _)).kept hb)
    have Bm : Hid (Blk w1 (w.heap.size + 1) 35 #[.slice a1 m.fs.length c1, .slice a2 m.us.length c2]) := hid (((Blk.newAt (by simp)).kept (below_alloc _)).kept hb)
    have Bf : Hid (Blk w1 (w.heap.size + 1 + 1) 29 #[.int .i64 f.num, .slice ka f.ks.length kc, .slice va f.vs.length vc]) := hid ((Blk.newAt (by simp)).kept hb)
    have HB : Hid (Below w.heap.size w w1) := hid hz
    have xBt := Bt.out.cellF
    have zBt := Bt.out.lt
    have xBm := Bm.out.cellF
    have zBm := Bm.out.lt
    have xBf := Bf.out.cellF
    have zBf := Bf.out.lt
    clear hz hb
    go_wp2_with fail
    refine (H1.out _ (by have := HB.out; exact blBy)).mono ?_
    rintro e w2 ⟨rfl, hb⟩
    have hz := hb
    clear xBt zBt xBm zBm xBf zBf
    replace Bt := hid (Bt.out.kept hz)
    replace Bm := hid (Bm.out.kept hz)
    replace Bf := hid (Bf.out.kept hz)
    replace HB := hid (below_trans HB.out hz)
    have xBt := Bt.out.cellF
    have zBt := Bt.out.lt
    have xBm := Bm.out.cellF
    have zBm := Bm.out.lt
    have xBf := Bf.out.cellF
    have zBf := Bf.out.lt
    clear hz hb
    go_wp2_with fail
    refine (H2.out _ (by have := HB.out; exact blBy)).mono ?_
    rintro e w3 ⟨rfl, hb⟩
    have hz : Below w2.heap.size w2 w3 := bl_then (by exact blBy) hb
    clear xBt zBt xBm zBm xBf zBf
    replace Bt := hid (Bt.out.kept hz)
    replace Bm := hid (Bm.out.kept hz)
    replace Bf := hid (Bf.out.kept hz)
    have Bs : Hid (Blk w3 (w2.heap.size) 35 #[.slice none 0 0, .slice none 0 0]) := hid ((Blk.new _ _ _).kept hb)
    replace HB := hid (below_trans HB.out hz)
    have xBt := Bt.out.cellF
    have zBt := Bt.out.lt
    have xBm := Bm.out.cellF
    have zBm := Bm.out.lt
    have xBf := Bf.out.cellF
    have zBf := Bf.out.lt
    have xBs := Bs.out.cellF
    have zBs := Bs.out.lt
    clear hz hb
    go_wp2
    go_ret
    exact ⟨ret_bool (by simp), HB.out⟩
  | true =>
    obtain ⟨k, hkl, rfl, hg, he⟩ := isB_at q
    have H4 := hid fun W (hW : Below w.heap.size w W) => normalT W l ta tc (HT.out.kept hW) HK.out mx (cell_below HM0.out hW) k hkl hg he Z (d + 1) _ m (HMM.out.kept hW)
    cases hq : keptB l (d + 1) l[k] m with
    | false =>
      have H1 := hid fun W (hW : Below w.heap.size w W) => settleBad W l ta tc (HT.out.kept hW) HK.out mx (cell_below HM0.out hW) k hkl hg he Z (d + 1) _ m (HMM.out.kept hW) hq
      rw [norm_no hq] at H4
      have H2 := H4
      clear HT HK HM0 HMM HFF q hg he hq H4
      go_enter Tryz.func8, Tryz.ntmps8
      go_wp2_with fail
      refine (HAW.out _ (by exact blBy)).mono ?_
      rintro e w1 ⟨rfl, hb⟩
      have hz : Below w.heap.size w w1 := bl_then (by exact blBy) hb
      have Bt : Hid (Blk w1 (w.heap.size) 46 #[.slice ta l.length tc]) := hid ((((Blk.new _ _ _).kept (below_alloc _)).kept (below_alloc _)).kept hb)
      have Bm : Hid (Blk w1 (w.heap.size + 1) 35 #[.slice a1 m.fs.length c1, .slice a2 m.us.length c2]) := hid (((Blk.newAt (by simp)).kept (below_alloc _)).kept hb)
      have Bf : Hid (Blk w1 (w.heap.size + 1 + 1) 29 #[.int .i64 f.num, .slice ka f.ks.length kc, .slice va f.vs.length vc]) := hid ((Blk.newAt (by simp)).kept hb)
      have HB : Hid (Below w.heap.size w w1) := hid hz
      have xBt := Bt.out.cellF
      have zBt := Bt.out.lt
      have xBm := Bm.out.cellF
      have zBm := Bm.out.lt
      have xBf := Bf.out.cellF
      have zBf := Bf.out.lt
      clear hz hb
      go_wp2_with fail
      refine (H1.out _ (by have := HB.out; exact blBy)).mono ?_
      rintro e w2 ⟨rfl, hb⟩
      have hz := hb
      clear xBt zBt xBm zBm xBf zBf
      replace Bt := hid (Bt.out.kept hz)
      replace Bm := hid (Bm.out.kept hz)
      replace Bf := hid (Bf.out.kept hz)
      replace HB := hid (below_trans HB.out hz)
      have xBt := Bt.out.cellF
      have zBt := Bt.out.lt
      have xBm := Bm.out.cellF
      have zBm := Bm.out.lt
      have xBf := Bf.out.cellF
      have zBf := Bf.out.lt
      clear hz hb
      go_wp2_with fail
      refine (H2.out _ (by have := HB.out; exact blBy)).mono ?_
      rintro e w3 ⟨rfl, hb⟩
      have hz : Below w2.heap.size w2 w3 := bl_then (by exact blBy) hb
      clear xBt zBt xBm zBm xBf zBf
      replace Bt := hid (Bt.out.kept hz)
      replace Bm := hid (Bm.out.kept hz)
      replace Bf := hid (Bf.out.kept hz)
      have Bs : Hid (Blk w3 (w2.heap.size) 35 #[.slice none 0 0, .slice none 0 0]) := hid ((Blk.new _ _ _).kept hb)
      replace HB := hid (below_trans HB.out hz)
      have xBt := Bt.out.cellF
      have zBt := Bt.out.lt
      have xBm := Bm.out.cellF
      have zBm := Bm.out.lt
      have xBf := Bf.out.cellF
      have zBf := Bf.out.lt
      have xBs := Bs.out.cellF
      have zBs := Bs.out.lt
      clear hz hb
      go_wp2
      go_ret
      exact ⟨ret_bool (by simp), HB.out⟩
    | true =>
      have H1 := hid fun W (hW : Below w.heap.size w W) => settleOk W l ta tc (HT.out.kept hW) HK.out mx (cell_below HM0.out hW) k hkl hg he Z (d + 1) _ m (HMM.out.kept hW) hq
      have H2 := hid fun W (hW : Below w.heap.size w W) (Z' : Nat → Prop) (ds : List Value) (hs : MsgE W Z' (d + 1) ds (setM l (d + 1) l[k] m)) => normalT W l ta tc (HT.out.kept hW) HK.out mx (cell_below HM0.out hW) k hkl hg he Z' (d + 1) ds _ hs
      have H3 := hid fun W (hW : Below w.heap.size w W) (Z' : Nat → Prop) (ds : List Value) (hs : MsgE W Z' (d + 1) ds (setM l (d + 1) l[k] m)) => settleOk W l ta tc (HT.out.kept hW) HK.out mx (cell_below HM0.out hW) k hkl hg he Z' (d + 1) ds _ hs (set_kept l (d + 1) _ m hq)
      have H5 := hid fun W (hW : Below w.heap.size w W) => setOk W l ta tc (HT.out.kept hW) HK.out mx (cell_below HM0.out hW) k hkl hg he Z d _ _ m f (HMM.out.kept hW) (HFF.out.kept hW) hq
      have H6 := hid fun W (hW : Below w.heap.size w W) (hp : keptB l (d + 1) l[k] (withM l[k].t.fs m f) = true) (Z' : Nat → Prop) (ds : List Value) (hs : MsgE W Z' (d + 1) ds (withM l[k].t.fs m f)) => (show _ from by have := setOk W l ta tc (HT.out.kept hW) HK.out mx (cell_below HM0.out hW) k hkl hg he (fun _ => True) d ds _ _ f (MsgE.go (Keep.refl (fun _ => True) W) (fun _ _ => trivial) (fun _ _ => trivial) _ _ _ hs) ((famF d).go HFF.out (keepT hW) (fun _ _ => trivial) (fun _ _ => trivial)) hp; rw [with_again, hp] at this; exact this : Calls Tryz.prog 33 #[.agg #[.slice ta l.length tc], .int .i64 (k : Int), .agg ds.toArray, .agg _] W (SetR (d + 1) W true (withM l[k].t.fs m f)))
      have H7 := hid fun W (hW : Below w.heap.size w W) (Z' : Nat → Prop) (ds : List Value) (hs : MsgE W Z' (d + 1) ds (withM l[k].t.fs m f)) => typedT W l ta tc (HT.out.kept hW) HK.out mx (cell_below HM0.out hW) k hkl hg he Z' (d + 1) ds _ hs
      have H8 := hid fun W (hp : keptB l (d + 1) l[k] (withM l[k].t.fs m f) = true) (Z' : Nat → Prop) (ds : List Value) (hs : MsgE W Z' (d + 1) ds (withM l[k].t.fs m f)) => (by have := getT d W Z' ds _ hs f.num; rw [with_get hp] at this; exact this : Calls Tryz.prog 24 #[.agg ds.toArray, .int .i64 f.num] W (GetR d W (some f)))
      have HEQ := hid (norm_eq hq)
      have HDP := hid (set_depth l (d + 1) l[k] m)
      have HD1 := hid fun W (Z' : Nat → Prop) (ds : List Value) (hs : MsgE W Z' (d + 1) ds (setM l (d + 1) l[k] m)) => depthT (d + 1) hd W Z' ds _ hs
      have HD2 := hid fun W (hW : Below w.heap.size w W) => depthT (d + 1) hd W Z _ m (HMM.out.kept hW)
      rw [norm_set hq] at H2
      rw [set_idem] at H3
      generalize normB l (d + 1) l[k] m = nb at *
      generalize setM l (d + 1) l[k] m = sm at *
      generalize keptB l (d + 1) l[k] (withM l[k].t.fs m f) = kb at *
      generalize withM l[k].t.fs m f = wm at *
      clear HT HK HM0 q hg he hq
      go_enter Tryz.func8, Tryz.ntmps8
      go_wp2_with fail
      refine (HAW.out _ (by exact blBy)).mono ?_
      rintro e w1 ⟨rfl, hb⟩
      have hz : Below w.heap.size w w1 := bl_then (by exact blBy) hb
      have Bt : Hid (Blk w1 (w.heap.size) 46 #[.slice ta l.length tc]) := hid ((((Blk.new _ _ _).kept (below_alloc _)).kept (below_alloc _)).kept hb)
      have Bm : Hid (Blk w1 (w.heap.size + 1) 35 #[.slice a1 m.fs.length c1, .slice a2 m.us.length c2]) := hid (((Blk.newAt (by simp)).kept (below_alloc _)).kept hb)
      have Bf : Hid (Blk w1 (w.heap.size + 1 + 1) 29 #[.int .i64 f.num, .slice ka f.ks.length kc, .slice va f.vs.length vc]) := hid ((Blk.newAt (by simp)).kept hb)
      have HB : Hid (Below w.heap.size w w1) := hid hz
      have xBt := Bt.out.cellF
      have zBt := Bt.out.lt
      have xBm := Bm.out.cellF
      have zBm := Bm.out.lt
      have xBf := Bf.out.cellF
      have zBf := Bf.out.lt
      clear hz hb
      go_wp2_with fail
      refine (H1.out _ (by have := HB.out; exact blBy)).mono ?_
      rintro e w2 ⟨ds, rfl, hn, hb⟩
      have hz := hb
      clear xBt zBt xBm zBm xBf zBf
      replace Bt := hid (Bt.out.kept hz)
      replace Bm := hid (Bm.out.kept hz)
      replace Bf := hid (Bf.out.kept hz)
      replace HB := hid (below_trans HB.out hz)
      have xBt := Bt.out.cellF
      have zBt := Bt.out.lt
      have xBm := Bm.out.cellF
      have zBm := Bm.out.lt
      have xBf := Bf.out.cellF
      have zBf := Bf.out.lt
      clear hz hb
      obtain ⟨sa, sc, ua, uc, rfl, -⟩ := msg_openD hn
      have HN : Hid (MsgE w2 AnyZ (d + 1) [.slice sa sm.fs.length sc, .slice ua sm.us.length uc] sm) := hid hn.any
      clear hn
      go_wp2_with fail
      refine (H2.out _ (by have := HB.out; exact blBy) _ _ (MsgE.kept HN.out (by exact blBy))).mono ?_
      rintro e w3 ⟨rfl, hb⟩
      have hz : Below w2.heap.size w2 w3 := bl_then (by exact blBy) hb
      clear xBt zBt xBm zBm xBf zBf
      replace Bt := hid (Bt.out.kept hz)
      replace Bm := hid (Bm.out.kept hz)
      replace Bf := hid (Bf.out.kept hz)
      replace HN := hid (MsgE.kept HN.out hz)
      have Bs : Hid (Blk w3 (w2.heap.size) 35 #[.slice sa sm.fs.length sc, .slice ua sm.us.length uc]) := hid ((Blk.new _ _ _).kept hb)
      replace HB := hid (below_trans HB.out hz)
      have xBt := Bt.out.cellF
      have zBt := Bt.out.lt
      have xBm := Bm.out.cellF
      have zBm := Bm.out.lt
      have xBf := Bf.out.cellF
      have zBf := Bf.out.lt
      have xBs := Bs.out.cellF
      have zBs := Bs.out.lt
      clear hz hb
      go_wp2_with fail
      refine (H3.out _ (by have := HB.out; exact blBy) _ _ HN.out).mono ?_
      rintro e w4 ⟨ds, rfl, hn, hb⟩
      have hz := hb
      clear xBt zBt xBm zBm xBf zBf xBs zBs
      replace Bt := hid (Bt.out.kept hz)
      replace Bm := hid (Bm.out.kept hz)
      replace Bf := hid (Bf.out.kept hz)
      replace Bs := hid (Bs.out.kept hz)
      replace HN := hid (MsgE.kept HN.out hz)
      replace HB := hid (below_trans HB.out hz)
      have xBt := Bt.out.cellF
      have zBt := Bt.out.lt
      have xBm := Bm.out.cellF
      have zBm := Bm.out.lt
      have xBf := Bf.out.cellF
      have zBf := Bf.out.lt
      have xBs := Bs.out.cellF
      have zBs := Bs.out.lt
      clear hz hb
      obtain ⟨sa2, sc2, ua2, uc2, rfl, -⟩ := msg_openD hn
      have HA : Hid (MsgE w4 AnyZ (d + 1) [.slice sa2 sm.fs.length sc2, .slice ua2 sm.us.length uc2] sm) := hid hn.any
      clear hn
      go_wp2_with fail
      refine (H4.out _ (by have := HB.out; exact blBy)).mono ?_
      rintro e w5 ⟨rfl, hb⟩
      have hz : Below w4.heap.size w4 w5 := bl_then (by exact blBy) hb
      clear xBt zBt xBm zBm xBf zBf xBs zBs
      replace Bt := hid (Bt.out.kept hz)
      replace Bm := hid (Bm.out.kept hz)
      replace Bf := hid (Bf.out.kept hz)
      replace Bs := hid (Bs.out.kept hz)
      replace HN := hid (MsgE.kept HN.out hz)
      replace HA := hid (MsgE.kept HA.out hz)
      have Ba : Hid (Blk w5 (w4.heap.size) 35 #[.slice sa2 sm.fs.length sc2, .slice ua2 sm.us.length uc2]) := hid ((Blk.new _ _ _).kept hb)
      replace HB := hid (below_trans HB.out hz)
      have xBt := Bt.out.cellF
      have zBt := Bt.out.lt
      have xBm := Bm.out.cellF
      have zBm := Bm.out.lt
      have xBf := Bf.out.cellF
      have zBf := Bf.out.lt
      have xBs := Bs.out.cellF
      have zBs := Bs.out.lt
      have xBa := Ba.out.cellF
      have zBa := Ba.out.lt
      clear hz hb
      go_wp2_with fail
      clear xBt zBt xBm zBm xBf zBf xBs zBs xBa zBa
      have HSK : Hid (∀ W, Below w5.heap.size w5 W → (fun W => (∀ k, W.cell? ⟨w.heap.size + 1, k, none⟩ = #[.slice a1 m.fs.length c1, .slice a2 m.us.length c2][k]?) ∧ (∀ k, W.cell? ⟨w2.heap.size, k, none⟩ = #[.slice sa sm.fs.length sc, .slice ua sm.us.length uc][k]?) ∧ (∀ k, W.cell? ⟨w4.heap.size, k, none⟩ = #[.slice sa2 sm.fs.length sc2, .slice ua2 sm.us.length uc2][k]?)) W) := hid fun W hW => ⟨(Bm.out.kept hW).cellF, (Bs.out.kept hW).cellF, (Ba.out.kept hW).cellF⟩
      have hdp : ((depM (d + 1) m : Int) < (depM (d + 1) sm : Int)) = False := eq_false (by have := HDP.out; omega)
      have hnb : (nb != nb) = false := by simp
      refine wp_region_held_drew (S := (fun W => (∀ k, W.cell? ⟨w.heap.size + 1, k, none⟩ = #[.slice a1 m.fs.length c1, .slice a2 m.us.length c2][k]?) ∧ (∀ k, W.cell? ⟨w2.heap.size, k, none⟩ = #[.slice sa sm.fs.length sc, .slice ua sm.us.length uc][k]?) ∧ (∀ k, W.cell? ⟨w4.heap.size, k, none⟩ = #[.slice sa2 sm.fs.length sc2, .slice ua2 sm.us.length uc2][k]?))) (by kernel_rfl) ?_ (fun hHeld => ?_)
      · exact HSK.out _ (below_drew1 _)
      refine wpAnyH_take (i := 0) (v := ?_) rfl (by kernel_rfl) (by kernel_rfl) (by kernel_rfl) (fun _ _ _ h => h) (Or.inl ⟨by rfl, ?_⟩) (by assumption) ?_
      rotate_left
      · (intro w hSw; (try dsimp only at hSw); go_simp; (try with_reducible rfl))
      try simp only [Act.put, List.getElem_toArray, List.getElem_cons_succ, List.getElem_cons_zero, List.setIfInBounds_toArray, List.set_cons_zero, List.set_cons_succ]
      refine wpAnyH_take (i := 1) (v := ?_) rfl (by kernel_rfl) (by kernel_rfl) (by kernel_rfl) (fun _ _ _ h => h) (Or.inl ⟨by rfl, ?_⟩) (by assumption) ?_
      rotate_left
      · (intro w hSw; (try dsimp only at hSw); go_simp; (try with_reducible rfl))
      try simp only [Act.put, List.getElem_toArray, List.getElem_cons_succ, List.getElem_cons_zero, List.setIfInBounds_toArray, List.set_cons_zero, List.set_cons_succ]
      refine wpAnyH_take (i := 2) (v := ?_) rfl (by kernel_rfl) (by kernel_rfl) (by kernel_rfl) (fun _ _ _ h => h) (Or.inl ⟨by rfl, ?_⟩) (by assumption) ?_
      rotate_left
      · (intro w hSw; (try dsimp only at hSw); go_simp; (try with_reducible rfl))
      try simp only [Act.put, List.getElem_toArray, List.getElem_cons_succ, List.getElem_cons_zero, List.setIfInBounds_toArray, List.set_cons_zero, List.set_cons_succ]
      refine wpAnyH_take (i := 3) (v := ?_) rfl (by kernel_rfl) (by kernel_rfl) (by kernel_rfl) (fun _ _ _ h => h) (Or.inl ⟨by rfl, ?_⟩) (by assumption) ?_
      rotate_left
      · (intro w hSw; (try dsimp only at hSw); go_simp; (try with_reducible rfl))
      try simp only [Act.put, List.getElem_toArray, List.getElem_cons_succ, List.getElem_cons_zero, List.setIfInBounds_toArray, List.set_cons_zero, List.set_cons_succ]
      refine wpAnyH_take (i := 4) (v := ?_) rfl (by kernel_rfl) (by kernel_rfl) (by kernel_rfl) (fun _ _ _ h => h) (Or.inl ⟨by rfl, ?_⟩) (by assumption) ?_
      rotate_left
      · (intro w hSw; (try dsimp only at hSw); go_simp; (try with_reducible rfl))
      try simp only [Act.put, List.getElem_toArray, List.getElem_cons_succ, List.getElem_cons_zero, List.setIfInBounds_toArray, List.set_cons_zero, List.set_cons_succ]
      refine wpAnyH_take (i := 5) (v := ?_) rfl (by kernel_rfl) (by kernel_rfl) (by kernel_rfl) (fun _ _ _ h => h) (Or.inl ⟨by rfl, ?_⟩) (by assumption) ?_
      rotate_left
      · (intro w hSw; (try dsimp only at hSw); go_simp; (try with_reducible rfl))
      try simp only [Act.put, List.getElem_toArray, List.getElem_cons_succ, List.getElem_cons_zero, List.setIfInBounds_toArray, List.set_cons_zero, List.set_cons_succ]
      refine wpAnyH_take (i := 6) (v := ?_) rfl (by kernel_rfl) (by kernel_rfl) (by kernel_rfl) (fun _ _ _ h => h) (Or.inl ⟨by rfl, ?_⟩) (by assumption) ?_
      rotate_left
      · (intro w hSw; (try dsimp only at hSw); go_simp; (try with_reducible rfl))
      try simp only [Act.put, List.getElem_toArray, List.getElem_cons_succ, List.getElem_cons_zero, List.setIfInBounds_toArray, List.set_cons_zero, List.set_cons_succ]
      refine wpAnyH_take (i := 7) (v := ?_) rfl (by kernel_rfl) (by kernel_rfl) (by kernel_rfl) (fun _ _ _ h => h) (Or.inl ⟨by rfl, ?_⟩) (by assumption) ?_
      rotate_left
      · (intro w hSw; (try dsimp only at hSw); go_simp; (try with_reducible rfl))
      try simp only [Act.put, List.getElem_toArray, List.getElem_cons_succ, List.getElem_cons_zero, List.setIfInBounds_toArray, List.set_cons_zero, List.set_cons_succ]
      refine wpAnyH_take (i := 8) (v := ?_) rfl (by kernel_rfl) (by kernel_rfl) (by kernel_rfl) (fun _ _ _ h => h) (Or.inl ⟨by rfl, ?_⟩) (by assumption) ?_
      rotate_left
      · (intro w hSw; (try dsimp only at hSw); go_simp; (try with_reducible rfl))
      try simp only [Act.put, List.getElem_toArray, List.getElem_cons_succ, List.getElem_cons_zero, List.setIfInBounds_toArray, List.set_cons_zero, List.set_cons_succ]
      refine wpAnyH_take (i := 9) (v := ?_) rfl (by kernel_rfl) (by kernel_rfl) (by kernel_rfl) (fun _ _ _ h => h) (Or.inl ⟨by rfl, ?_⟩) (by assumption) ?_
      rotate_left
      · (intro w hSw; (try dsimp only at hSw); go_simp; (try with_reducible rfl))
      try simp only [Act.put, List.getElem_toArray, List.getElem_cons_succ, List.getElem_cons_zero, List.setIfInBounds_toArray, List.set_cons_zero, List.set_cons_succ]
      refine wpAnyH_take (i := 10) (v := ?_) rfl (by kernel_rfl) (by kernel_rfl) (by kernel_rfl) (fun _ _ _ h => h) (Or.inl ⟨by rfl, ?_⟩) (by assumption) ?_
      rotate_left
      · (intro w hSw; (try dsimp only at hSw); go_simp; (try with_reducible rfl))
      try simp only [Act.put, List.getElem_toArray, List.getElem_cons_succ, List.getElem_cons_zero, List.setIfInBounds_toArray, List.set_cons_zero, List.set_cons_succ]
      refine wpAnyH_take (i := 11) (v := ?_) rfl (by kernel_rfl) (by kernel_rfl) (by kernel_rfl) (fun _ _ _ h => h) (Or.inl ⟨by rfl, ?_⟩) (by assumption) ?_
      rotate_left
      · (intro w hSw; (try dsimp only at hSw); go_simp; (try with_reducible rfl))
      try simp only [Act.put, List.getElem_toArray, List.getElem_cons_succ, List.getElem_cons_zero, List.setIfInBounds_toArray, List.set_cons_zero, List.set_cons_succ]
      refine wpAnyH_take (i := 12) (v := ?_) rfl (by kernel_rfl) (by kernel_rfl) (by kernel_rfl) (fun _ _ _ h => h) (Or.inl ⟨by rfl, ?_⟩) (by assumption) ?_
      rotate_left
      · (intro w hSw; (try dsimp only at hSw); go_simp; (try with_reducible rfl))
      try simp only [Act.put, List.getElem_toArray, List.getElem_cons_succ, List.getElem_cons_zero, List.setIfInBounds_toArray, List.set_cons_zero, List.set_cons_succ]
      refine wpAnyH_ready (rs := [13]) (by kernel_rfl) (by simp) ?_
      refine AllReadyH.cons rfl (fun K hK => ?_) AllReadyH.nil
      go_simp
      go_wp2_with (go_at_call 26; refine (equalT (d + 1) _ AnyZ AnyZ [.slice sa2 sm.fs.length sc2, .slice ua2 sm.us.length uc2] [.slice sa sm.fs.length sc, .slice ua sm.us.length uc] sm sm (HA.out.kept (below_drew1 _)) (HN.out.kept (below_drew1 _))).mono ?_; rintro e u1 hE; obtain ⟨rfl, hbu⟩ := EqR.val hE true ⟨fun _ => rfl, fun _ => rfl⟩; have K1 : Hid (Below w5.heap.size w5 u1) := hid (bl_then (below_drew1 _) hbu); clear hE hbu)
      refine hK.out _ _ ?_ (fun hHeld => ?_)
      · first | assumption | exact HSK.out _ K1.out
      clear hK K
      try simp only [Act.put, List.getElem_toArray, List.getElem_cons_succ, List.getElem_cons_zero, List.setIfInBounds_toArray, List.set_cons_zero, List.set_cons_succ]
      refine wpAnyH_take (i := 14) (v := ?_) rfl (by kernel_rfl) (by kernel_rfl) (by kernel_rfl) (fun _ _ _ h => h) (Or.inl ⟨by rfl, ?_⟩) (by assumption) ?_
      rotate_left
      · (intro w hSw; (try dsimp only at hSw); go_simp; (try with_reducible rfl))
      try simp only [Act.put, List.getElem_toArray, List.getElem_cons_succ, List.getElem_cons_zero, List.setIfInBounds_toArray, List.set_cons_zero, List.set_cons_succ]
      refine wpAnyH_take (i := 15) (v := ?_) rfl (by kernel_rfl) (by kernel_rfl) (by kernel_rfl) (fun _ _ _ h => h) (Or.inl ⟨by rfl, ?_⟩) (by assumption) ?_
      rotate_left
      · (intro w hSw; (try dsimp only at hSw); go_simp; (try with_reducible rfl))
      try simp only [Act.put, List.getElem_toArray, List.getElem_cons_succ, List.getElem_cons_zero, List.setIfInBounds_toArray, List.set_cons_zero, List.set_cons_succ]
      refine wpAnyH_take (i := 16) (v := ?_) rfl (by kernel_rfl) (by kernel_rfl) (by kernel_rfl) (fun _ _ _ h => h) (Or.inl ⟨by rfl, ?_⟩) (by assumption) ?_
      rotate_left
      · (intro w hSw; (try dsimp only at hSw); go_simp; (try with_reducible rfl))
      try simp only [Act.put, List.getElem_toArray, List.getElem_cons_succ, List.getElem_cons_zero, List.setIfInBounds_toArray, List.set_cons_zero, List.set_cons_succ]
      refine wpAnyH_take (i := 17) (v := ?_) rfl (by kernel_rfl) (by kernel_rfl) (by kernel_rfl) (fun _ _ _ h => h) (Or.inl ⟨by rfl, ?_⟩) (by assumption) ?_
      rotate_left
      · (intro w hSw; (try dsimp only at hSw); go_simp; (try with_reducible rfl))
      try simp only [Act.put, List.getElem_toArray, List.getElem_cons_succ, List.getElem_cons_zero, List.setIfInBounds_toArray, List.set_cons_zero, List.set_cons_succ]
      refine wpAnyH_take (i := 18) (v := ?_) rfl (by kernel_rfl) (by kernel_rfl) (by kernel_rfl) (fun _ _ _ h => h) (Or.inl ⟨by rfl, ?_⟩) (by assumption) ?_
      rotate_left
      · (intro w hSw; (try dsimp only at hSw); go_simp; (try with_reducible rfl))
      try simp only [Act.put, List.getElem_toArray, List.getElem_cons_succ, List.getElem_cons_zero, List.setIfInBounds_toArray, List.set_cons_zero, List.set_cons_succ]
      refine wpAnyH_take (i := 19) (v := ?_) rfl (by kernel_rfl) (by kernel_rfl) (by kernel_rfl) (fun _ _ _ h => h) (Or.inl ⟨by rfl, ?_⟩) (by assumption) ?_
      rotate_left
      · (intro w hSw; (try dsimp only at hSw); go_simp; (try with_reducible rfl))
      try simp only [Act.put, List.getElem_toArray, List.getElem_cons_succ, List.getElem_cons_zero, List.setIfInBounds_toArray, List.set_cons_zero, List.set_cons_succ]
      refine wpAnyH_take (i := 20) (v := ?_) rfl (by kernel_rfl) (by kernel_rfl) (by kernel_rfl) (fun _ _ _ h => h) (Or.inl ⟨by rfl, ?_⟩) (by assumption) ?_
      rotate_left
      · (intro w hSw; (try dsimp only at hSw); go_simp; (try with_reducible rfl))
      try simp only [Act.put, List.getElem_toArray, List.getElem_cons_succ, List.getElem_cons_zero, List.setIfInBounds_toArray, List.set_cons_zero, List.set_cons_succ]
      refine wpAnyH_take (i := 21) (v := ?_) rfl (by kernel_rfl) (by kernel_rfl) (by kernel_rfl) (fun _ _ _ h => h) (Or.inl ⟨by rfl, ?_⟩) (by assumption) ?_
      rotate_left
      · (intro w hSw; (try dsimp only at hSw); go_simp; (try with_reducible rfl))
      try simp only [Act.put, List.getElem_toArray, List.getElem_cons_succ, List.getElem_cons_zero, List.setIfInBounds_toArray, List.set_cons_zero, List.set_cons_succ]
      refine wpAnyH_take (i := 22) (v := ?_) rfl (by kernel_rfl) (by kernel_rfl) (by kernel_rfl) (fun _ _ _ h => h) (Or.inl ⟨by rfl, ?_⟩) (by assumption) ?_
      rotate_left
      · (intro w hSw; (try dsimp only at hSw); go_simp; (try with_reducible rfl))
      try simp only [Act.put, List.getElem_toArray, List.getElem_cons_succ, List.getElem_cons_zero, List.setIfInBounds_toArray, List.set_cons_zero, List.set_cons_succ]
      refine wpAnyH_take (i := 23) (v := ?_) rfl (by kernel_rfl) (by kernel_rfl) (by kernel_rfl) (fun _ _ _ h => h) (Or.inl ⟨by rfl, ?_⟩) (by assumption) ?_
      rotate_left
      · (intro w hSw; (try dsimp only at hSw); go_simp; (try with_reducible rfl))
      try simp only [Act.put, List.getElem_toArray, List.getElem_cons_succ, List.getElem_cons_zero, List.setIfInBounds_toArray, List.set_cons_zero, List.set_cons_succ]
      refine wpAnyH_ready (rs := [24]) (by kernel_rfl) (by simp) ?_
      refine AllReadyH.cons rfl (fun K hK => ?_) AllReadyH.nil
      go_simp
      go_wp2_with (go_at_call 26; refine (equalT (d + 1) _ AnyZ Z [.slice sa sm.fs.length sc, .slice ua sm.us.length uc] [.slice a1 m.fs.length c1, .slice a2 m.us.length c2] sm m (HN.out.kept K1.out) (HMM.out.kept (below_trans HB.out K1.out))).mono ?_; rintro e u2 hE; obtain ⟨rfl, hbu⟩ := EqR.val hE nb HEQ.out; have K2 : Hid (Below w5.heap.size w5 u2) := hid (below_trans K1.out hbu); clear hE hbu)
      refine hK.out _ _ ?_ (fun hHeld => ?_)
      · first | assumption | exact HSK.out _ K2.out
      clear hK K
      try simp only [Act.put, List.getElem_toArray, List.getElem_cons_succ, List.getElem_cons_zero, List.setIfInBounds_toArray, List.set_cons_zero, List.set_cons_succ]
      refine wpAnyH_take (i := 25) (v := ?_) rfl (by kernel_rfl) (by kernel_rfl) (by kernel_rfl) (fun _ _ _ h => h) (Or.inl ⟨by rfl, ?_⟩) (by assumption) ?_
      rotate_left
      · (intro w hSw; (try dsimp only at hSw); go_simp; (try with_reducible rfl))
      try simp only [Act.put, List.getElem_toArray, List.getElem_cons_succ, List.getElem_cons_zero, List.setIfInBounds_toArray, List.set_cons_zero, List.set_cons_succ]
      refine wpAnyH_take (i := 26) (v := ?_) rfl (by kernel_rfl) (by kernel_rfl) (by kernel_rfl) (fun _ _ _ h => h) (Or.inl ⟨by rfl, ?_⟩) (by assumption) ?_
      rotate_left
      · (intro w hSw; (try dsimp only at hSw); go_simp; (try with_reducible rfl))
      try simp only [Act.put, List.getElem_toArray, List.getElem_cons_succ, List.getElem_cons_zero, List.setIfInBounds_toArray, List.set_cons_zero, List.set_cons_succ]
      refine wpAnyH_take (i := 27) (v := ?_) rfl (by kernel_rfl) (by kernel_rfl) (by kernel_rfl) (fun _ _ _ h => h) (Or.inl ⟨by rfl, ?_⟩) (by assumption) ?_
      rotate_left
      · (intro w hSw; (try dsimp only at hSw); go_simp; (try with_reducible rfl))
      try simp only [Act.put, List.getElem_toArray, List.getElem_cons_succ, List.getElem_cons_zero, List.setIfInBounds_toArray, List.set_cons_zero, List.set_cons_succ]
      refine wpAnyH_take (i := 28) (v := ?_) rfl (by kernel_rfl) (by kernel_rfl) (by kernel_rfl) (fun _ _ _ h => h) (Or.inl ⟨by rfl, ?_⟩) (by assumption) ?_
      rotate_left
      · (intro w hSw; (try dsimp only at hSw); go_simp; (try with_reducible rfl))
      try simp only [Act.put, List.getElem_toArray, List.getElem_cons_succ, List.getElem_cons_zero, List.setIfInBounds_toArray, List.set_cons_zero, List.set_cons_succ]
      refine wpAnyH_take (i := 30) (v := ?_) rfl (by kernel_rfl) (by kernel_rfl) (by kernel_rfl) (fun _ _ _ h => h) (Or.inl ⟨by rfl, ?_⟩) (by assumption) ?_
      rotate_left
      · (intro w hSw; (try dsimp only at hSw); go_simp; (try with_reducible rfl))
      try simp only [Act.put, List.getElem_toArray, List.getElem_cons_succ, List.getElem_cons_zero, List.setIfInBounds_toArray, List.set_cons_zero, List.set_cons_succ]
      refine wpAnyH_ready (rs := [29]) (by kernel_rfl) (by simp) ?_
      refine AllReadyH.cons rfl (fun K hK => ?_) AllReadyH.nil
      go_simp
      go_wp2_with (go_at_call 17; refine (HD1.out _ AnyZ [.slice sa sm.fs.length sc, .slice ua sm.us.length uc] (HN.out.kept K2.out)).mono ?_; rintro e u3 ⟨rfl, hbu⟩; have K3 : Hid (Below w5.heap.size w5 u3) := hid (below_trans K2.out hbu); clear hbu)
      refine hK.out _ _ ?_ (fun hHeld => ?_)
      · first | assumption | exact HSK.out _ K3.out
      clear hK K
      try simp only [Act.put, List.getElem_toArray, List.getElem_cons_succ, List.getElem_cons_zero, List.setIfInBounds_toArray, List.set_cons_zero, List.set_cons_succ]
      refine wpAnyH_ready (rs := [31]) (by kernel_rfl) (by simp) ?_
      refine AllReadyH.cons rfl (fun K hK => ?_) AllReadyH.nil
      go_simp
      go_wp2_with (go_at_call 17; refine (HD2.out _ (below_trans HB.out K3.out)).mono ?_; rintro e w6 ⟨rfl, hbu⟩; have K4 : Hid (Below w5.heap.size w5 w6) := hid (below_trans K3.out hbu); clear hbu)
      refine hK.out _ _ ?_ (fun hHeld => ?_)
      · first | assumption | exact HSK.out _ K4.out
      clear hK K
      try simp only [Act.put, List.getElem_toArray, List.getElem_cons_succ, List.getElem_cons_zero, List.setIfInBounds_toArray, List.set_cons_zero, List.set_cons_succ]
      refine wpAnyH_take (i := 32) (v := ?_) rfl (by kernel_rfl) (by kernel_rfl) (by kernel_rfl) (fun _ _ _ h => h) (Or.inl ⟨by rfl, ?_⟩) (by assumption) ?_
      rotate_left
      · (intro w hSw; (try dsimp only at hSw); go_simp; (try with_reducible rfl))
      try simp only [Act.put, List.getElem_toArray, List.getElem_cons_succ, List.getElem_cons_zero, List.setIfInBounds_toArray, List.set_cons_zero, List.set_cons_succ]
      refine wpAnyH_take (i := 33) (v := ?_) rfl (by kernel_rfl) (by kernel_rfl) (by kernel_rfl) (fun _ _ _ h => h) (Or.inl ⟨by rfl, ?_⟩) (by assumption) ?_
      rotate_left
      · (intro w hSw; (try dsimp only at hSw); go_simp; (try with_reducible rfl))
      try simp only [Act.put, List.getElem_toArray, List.getElem_cons_succ, List.getElem_cons_zero, List.setIfInBounds_toArray, List.set_cons_zero, List.set_cons_succ]
      refine wpAnyH_done (by kernel_rfl) ?_ _
      have hb := K4.out
      clear hHeld HSK K1 K2 K3 K4
      have hz := hb
      replace Bt := hid (Bt.out.kept hz)
      replace Bm := hid (Bm.out.kept hz)
      replace Bf := hid (Bf.out.kept hz)
      replace Bs := hid (Bs.out.kept hz)
      replace Ba := hid (Ba.out.kept hz)
      replace HN := hid (MsgE.kept HN.out hz)
      replace HA := hid (MsgE.kept HA.out hz)
      replace HB := hid (below_trans HB.out hz)
      have xBt := Bt.out.cellF
      have zBt := Bt.out.lt
      have xBm := Bm.out.cellF
      have zBm := Bm.out.lt
      have xBf := Bf.out.cellF
      have zBf := Bf.out.lt
      have xBs := Bs.out.cellF
      have zBs := Bs.out.lt
      have xBa := Ba.out.cellF
      have zBa := Ba.out.lt
      clear hz hb
      clear Bs Ba HN HA xBs zBs xBa zBa H1 H2 H3 H4 HD1 HD2 HEQ HDP hdp
      cases kb with
      | false =>
        go_wp2_with fail
        refine (H5.out _ (by have := HB.out; exact blBy)).mono ?_
        rintro e w7 ⟨-, h2, hb⟩
        have hz := hb
        clear xBt zBt xBm zBm xBf zBf
        replace Bt := hid (Bt.out.kept hz)
        replace Bm := hid (Bm.out.kept hz)
        replace Bf := hid (Bf.out.kept hz)
        replace HB := hid (below_trans HB.out hz)
        have xBt := Bt.out.cellF
        have zBt := Bt.out.lt
        have xBm := Bm.out.cellF
        have zBm := Bm.out.lt
        have xBf := Bf.out.cellF
        have zBf := Bf.out.lt
        clear hz hb
        have h3 := h2 rfl
        subst h3
        go_wp2
        go_ret
        exact ⟨ret_bool (by simp), by have := HB.out; exact blBy⟩
      | true =>
        go_wp2_with fail
        refine (H5.out _ (by have := HB.out; exact blBy)).mono ?_
        rintro e w7 ⟨h1, -, hb⟩
        have hz := hb
        clear xBt zBt xBm zBm xBf zBf
        replace Bt := hid (Bt.out.kept hz)
        replace Bm := hid (Bm.out.kept hz)
        replace Bf := hid (Bf.out.kept hz)
        replace HB := hid (below_trans HB.out hz)
        have xBt := Bt.out.cellF
        have zBt := Bt.out.lt
        have xBm := Bm.out.cellF
        have zBm := Bm.out.lt
        have xBf := Bf.out.cellF
        have zBf := Bf.out.lt
        clear hz hb
        obtain ⟨ds, h3, hn⟩ := h1 rfl
        subst h3
        obtain ⟨pa, pc, ra, rc, rfl, -⟩ := msg_openD hn
        have HP : Hid (MsgE w7 AnyZ (d + 1) [.slice pa wm.fs.length pc, .slice ra wm.us.length rc] wm) := hid hn.any
        clear hn h1
        go_wp2_with fail
        refine (H8.out _ (by first | trivial | rfl) _ _ (MsgE.kept HP.out (by exact blBy))).mono ?_
        rintro e w8 ⟨es, rfl, hx, hb⟩
        have hz : Below w7.heap.size w7 w8 := bl_then (by exact blBy) hb
        clear xBt zBt xBm zBm xBf zBf
        replace Bt := hid (Bt.out.kept hz)
        replace Bm := hid (Bm.out.kept hz)
        replace Bf := hid (Bf.out.kept hz)
        replace HP := hid (MsgE.kept HP.out hz)
        have Bp : Hid (Blk w8 (w7.heap.size) 35 #[.slice pa wm.fs.length pc, .slice ra wm.us.length rc]) := hid ((Blk.new _ _ _).kept hb)
        replace HB := hid (below_trans HB.out hz)
        have xBt := Bt.out.cellF
        have zBt := Bt.out.lt
        have xBm := Bm.out.cellF
        have zBm := Bm.out.lt
        have xBf := Bf.out.cellF
        have zBf := Bf.out.lt
        have xBp := Bp.out.cellF
        have zBp := Bp.out.lt
        clear hz hb
        replace hx := FldE.go hx (Keep.refl (fun _ => True) _) (fun _ _ => trivial) (fun _ _ => trivial) (fun _ _ h => MsgE.any h)
        rw [Option.getD_some] at hx
        obtain ⟨xa, xc, ya, yc, rfl, -⟩ := fld_open hx
        have HX : Hid (FldE w8 AnyZ (MsgE w8 AnyZ d) [.int .i64 f.num, .slice xa f.ks.length xc, .slice ya f.vs.length yc] f) := hid hx
        clear hx
        go_wp2_with fail
        refine (H6.out _ (by have := HB.out; exact blBy) (by first | trivial | rfl) _ _ (MsgE.kept HP.out (by exact blBy))).mono ?_
        rintro e w9 ⟨h1, -, hb⟩
        have hz : Below w8.heap.size w8 w9 := bl_then (by exact blBy) hb
        clear xBt zBt xBm zBm xBf zBf xBp zBp
        replace Bt := hid (Bt.out.kept hz)
        replace Bm := hid (Bm.out.kept hz)
        replace Bf := hid (Bf.out.kept hz)
        replace Bp := hid (Bp.out.kept hz)
        replace HP := hid (MsgE.kept HP.out hz)
        replace HX := hid (FldE.kept HX.out hz)
        have Bx : Hid (Blk w9 (w8.heap.size) 29 #[.int .i64 f.num, .slice xa f.ks.length xc, .slice ya f.vs.length yc]) := hid ((Blk.new _ _ _).kept hb)
        replace HB := hid (below_trans HB.out hz)
        have xBt := Bt.out.cellF
        have zBt := Bt.out.lt
        have xBm := Bm.out.cellF
        have zBm := Bm.out.lt
        have xBf := Bf.out.cellF
        have zBf := Bf.out.lt
        have xBp := Bp.out.cellF
        have zBp := Bp.out.lt
        have xBx := Bx.out.cellF
        have zBx := Bx.out.lt
        clear hz hb
        obtain ⟨ds, h3, hn⟩ := h1 rfl
        subst h3
        obtain ⟨qa, qc, ua3, uc3, rfl, -⟩ := msg_openD hn
        have HQ : Hid (MsgE w9 AnyZ (d + 1) [.slice qa wm.fs.length qc, .slice ua3 wm.us.length uc3] wm) := hid hn.any
        clear hn h1
        go_wp2_with fail
        refine (H7.out _ (by have := HB.out; exact blBy) _ _ (MsgE.kept HP.out (by exact blBy))).mono ?_
        rintro e w10 ⟨rfl, hb⟩
        have hz : Below w9.heap.size w9 w10 := bl_then (by exact blBy) hb
        clear xBt zBt xBm zBm xBf zBf xBp zBp xBx zBx
        replace Bt := hid (Bt.out.kept hz)
        replace Bm := hid (Bm.out.kept hz)
        replace Bf := hid (Bf.out.kept hz)
        replace Bp := hid (Bp.out.kept hz)
        replace Bx := hid (Bx.out.kept hz)
        replace HP := hid (MsgE.kept HP.out hz)
        replace HX := hid (FldE.kept HX.out hz)
        replace HQ := hid (MsgE.kept HQ.out hz)
        have Bq : Hid (Blk w10 (w9.heap.size) 35 #[.slice qa wm.fs.length qc, .slice ua3 wm.us.length uc3]) := hid ((Blk.new _ _ _).kept hb)
        replace HB := hid (below_trans HB.out hz)
        have xBt := Bt.out.cellF
        have zBt := Bt.out.lt
        have xBm := Bm.out.cellF
        have zBm := Bm.out.lt
        have xBf := Bf.out.cellF
        have zBf := Bf.out.lt
        have xBp := Bp.out.cellF
        have zBp := Bp.out.lt
        have xBx := Bx.out.cellF
        have zBx := Bx.out.lt
        have xBq := Bq.out.cellF
        have zBq := Bq.out.lt
        clear hz hb
        go_wp2_with fail
        refine (sameFieldD d (equalD d) _ AnyZ Z [.int .i64 f.num, .slice xa f.ks.length xc, .slice ya f.vs.length yc] [.int .i64 f.num, .slice ka f.ks.length kc, .slice va f.vs.length vc] f f HX.out (HFF.out.kept HB.out)).mono ?_
        rintro e w11 hE
        obtain ⟨rfl, hb⟩ := EqR.val hE true ⟨fun _ => rfl, fun _ => rfl⟩
        clear hE
        have hz := hb
        clear xBt zBt xBm zBm xBf zBf xBp zBp xBx zBx xBq zBq
        replace Bt := hid (Bt.out.kept hz)
        replace Bm := hid (Bm.out.kept hz)
        replace Bf := hid (Bf.out.kept hz)
        replace Bp := hid (Bp.out.kept hz)
        replace Bx := hid (Bx.out.kept hz)
        replace Bq := hid (Bq.out.kept hz)
        replace HP := hid (MsgE.kept HP.out hz)
        replace HX := hid (FldE.kept HX.out hz)
        replace HQ := hid (MsgE.kept HQ.out hz)
        replace HB := hid (below_trans HB.out hz)
        have xBt := Bt.out.cellF
        have zBt := Bt.out.lt
        have xBm := Bm.out.cellF
        have zBm := Bm.out.lt
        have xBf := Bf.out.cellF
        have zBf := Bf.out.lt
        have xBp := Bp.out.cellF
        have zBp := Bp.out.lt
        have xBx := Bx.out.cellF
        have zBx := Bx.out.lt
        have xBq := Bq.out.cellF
        have zBq := Bq.out.lt
        clear hz hb
        go_wp2_with fail
        refine (equalT (d + 1) _ AnyZ AnyZ [.slice pa wm.fs.length pc, .slice ra wm.us.length rc] [.slice qa wm.fs.length qc, .slice ua3 wm.us.length uc3] wm wm HP.out HQ.out).mono ?_
        rintro e w12 hE
        obtain ⟨rfl, hb⟩ := EqR.val hE true ⟨fun _ => rfl, fun _ => rfl⟩
        clear hE
        have hz := hb
        clear xBt zBt xBm zBm xBf zBf xBp zBp xBx zBx xBq zBq
        replace Bt := hid (Bt.out.kept hz)
        replace Bm := hid (Bm.out.kept hz)
        replace Bf := hid (Bf.out.kept hz)
        replace Bp := hid (Bp.out.kept hz)
        replace Bx := hid (Bx.out.kept hz)
        replace Bq := hid (Bq.out.kept hz)
        replace HP := hid (MsgE.kept HP.out hz)
        replace HX := hid (FldE.kept HX.out hz)
        replace HQ := hid (MsgE.kept HQ.out hz)
        replace HB := hid (below_trans HB.out hz)
        have xBt := Bt.out.cellF
        have zBt := Bt.out.lt
        have xBm := Bm.out.cellF
        have zBm := Bm.out.lt
        have xBf := Bf.out.cellF
        have zBf := Bf.out.lt
        have xBp := Bp.out.cellF
        have zBp := Bp.out.lt
        have xBx := Bx.out.cellF
        have zBx := Bx.out.lt
        have xBq := Bq.out.cellF
        have zBq := Bq.out.lt
        clear hz hb
        go_wp2
        go_ret
        exact ⟨ret_bool (by simp), HB.out⟩
end Go.Proofs.YtgephggcgopfgaaGreatDoor
namespace Go.Proofs.YtgephggcgopfgaaGreatDoor
open Go.ChangeShapes Go.WideShapes Go.ChangeAt Go.RowKit Go.Deep
set_option maxRecDepth 1000000
section
variable {H : Type}
theorem bulk_one (d : DataW H) : 1 ≤ Rows.uptoBulk d := by
  cases d with
  | lit l => cases l <;> simp [Rows.uptoBulk]
  | nil => simp [Rows.uptoBulk]
  | ptr d => simp [Rows.uptoBulk]
  | slice elems spare => simp [Rows.uptoBulk]
  | agg parts => simp [Rows.uptoBulk]
  | iface t d => simp [Rows.uptoBulk]
  | map entries => simp [Rows.uptoBulk]
  | held h => simp [Rows.uptoBulk]
theorem bulk_length (l : List (DataW H)) : l.length ≤ Rows.uptoBulkAll l := by
  induction l with
  | nil => simp [Rows.uptoBulkAll]
  | cons x r ih => have := bulk_one x; simp only [Rows.uptoBulkAll, List.length_cons]; omega
theorem small_le {l : List (DataW H)} (hk : Rows.uptoSmall H l = true) : Rows.uptoBulkAll l ≤ 1048576 := of_decide_eq_true hk
end
/-- The numbers of a string's bytes. -/
def numsS (s : ByteArray) : List Int := s.data.toList.map fun b => (b.toNat : Int)
theorem numsS_str (s : ByteArray) : strOfNums (numsS s) = s := by
  apply ByteArray.ext
  apply Array.ext'
  simp [strOfNums, numsS, Function.comp_def]
theorem numsS_bd (s : ByteArray) : ∀ x ∈ numsS s, 0 ≤ x ∧ x ≤ 255 := by
  intro x hx
  obtain ⟨b, _, rfl⟩ := List.mem_map.1 hx
  have := b.toNat_lt
  omega
theorem numsS_len (s : ByteArray) : (numsS s).length = s.data.toList.length := by simp [numsS]
end Go.Proofs.YtgephggcgopfgaaGreatDoor
namespace Go.Proofs.YtgephggcgopfgaaGreatDoor
open Go.ChangeShapes Go.WideShapes Go.ChangeAt Go.RowKit Go.Deep
set_option maxRecDepth 1000000
set_option linter.unusedVariables false
set_option linter.unusedSimpArgs false
set_option maxHeartbeats 1000000
section
variable {H : Type} {enc : TypeId × Value → H} {W : World} {spare : Nat → Bool} {held : Bool}
/-- A struct of fields of one cell each, opened. -/
theorem struct_open {t : TypeId} {fs : Array Field} (ht : Tryz.prog.underlying t = some (.struct fs)) (hone : oneCellFields Tryz.prog fs = true) (hsz : Tryz.prog.cellsOf t = fs.size) {fuel : Nat} {cs : List Value} {y : DataW H × List MemPlace} (h : DataW.trod enc Tryz.prog W 0 spare held fuel t cs = some y) :
    ∃ (xs : List (DataW H × List MemPlace)) (n : Nat), y.1 = .agg (xs.map (·.1)) ∧ xs.length = fs.size ∧ cs.length = fs.size ∧ ∀ (i : Nat) (f : Field), fs[i]? = some f → ∃ v yi, cs[i]? = some v ∧ xs[i]? = some yi ∧ DataW.trod enc Tryz.prog W 0 spare held n f.type [v] = some yi := by
  obtain ⟨xs, n, _, rfl, hl, hlen, hf⟩ := DataW.trod_struct ht h
  refine ⟨xs, n, rfl, hlen, hl.trans hsz, fun i f hi => ?_⟩
  have hlt : i < fs.size := (Array.getElem?_eq_some_iff.1 hi).1
  obtain ⟨o1, o2⟩ := hone_of hone i f hi
  have hc : i < cs.length := by omega
  have hx : i < xs.length := by omega
  refine ⟨cs[i], xs[i], by simp [hc], by simp [hx], ?_⟩
  have := hf i f hi
  have e : (cs.drop i).take 1 = [cs[i]] := by rw [List.drop_eq_getElem_cons hc]; rfl
  rw [o1, o2, e] at this
  rw [this]
  simp [hx]
theorem bulk_mem {l : List (DataW H)} {d : DataW H} (h : d ∈ l) : Rows.uptoBulk d ≤ Rows.uptoBulkAll l := by
  induction l with
  | nil => cases h
  | cons x r ih =>
    simp only [Rows.uptoBulkAll]
    rcases List.mem_cons.1 h with rfl | h
    · omega
    · have := ih h; omega
theorem bulk_get {xs : List (DataW H × List MemPlace)} {i : Nat} {y : DataW H × List MemPlace} (h : xs[i]? = some y) : Rows.uptoBulk y.1 + 1 ≤ Rows.uptoBulk (DataW.agg (xs.map (·.1))) := by
  have := bulk_mem (l := xs.map (·.1)) (d := y.1) (List.mem_map.2 ⟨y, List.mem_of_getElem? h, rfl⟩)
  simp only [Rows.uptoBulk]
  omega
/-- A row of structs, opened. -/
theorem rows_open {α : Type} (g : α → List Value) (K : Nat) (hK0 : 0 < K) (Q : α → DataW H → Prop) {t e : TypeId} (ht : Tryz.prog.underlying t = some (.slice e)) (hK : Tryz.prog.cellsOf e = K) (hg : ∀ x, (g x).length = K)
    (hel : ∀ (n : Nat) (cs : List Value) (y : DataW H × List MemPlace), DataW.trod enc Tryz.prog W 0 spare held n e cs = some y → ∃ x, cs = g x ∧ Q x y.1) {fuel : Nat} {v : Value} {y : DataW H × List MemPlace} (hf : DataW.trod enc Tryz.prog W 0 spare held fuel t [v] = some y) :
    ∃ (a : Option Addr) (cap : Nat) (xs : List α), v = .slice a xs.length cap ∧ RowS W AnyZ K v xs.length (xs.flatMap g) ∧ xs.length + 1 ≤ Rows.uptoBulk y.1 ∧ ∀ x ∈ xs, ∃ d, Q x d ∧ Rows.uptoBulk d ≤ Rows.uptoBulk y.1 := by
  rcases open_slice ht hf with ⟨hcs, rfl⟩ | ⟨a, len, cap, m, n, D, Pl, hcs, _, hl, hm, hmm, rfl, hx⟩
  · simp at hcs
    subst hcs
    exact ⟨none, 0, [], rfl, rowS_nil _ _ _, by simp [Rows.uptoBulk], fun x hx => by cases hx⟩
  · simp at hcs
    subst hcs
    rw [hK] at hx
    have hlm : len ≤ m := by rw [hmm]; split <;> omega
    have hc : ∀ i, i < len → ∃ x : α, W.cells? 0 (a.add (i * K)) K = some (g x) ∧ Q x (D i) := fun i hi => by
      obtain ⟨cs', h1, h2⟩ := hx i (by omega)
      obtain ⟨x, rfl, hq⟩ := hel _ _ _ h2
      exact ⟨x, h1, hq⟩
    obtain ⟨xs, hxl, hxs⟩ : ∃ xs : List α, xs.length = len ∧ ∀ i (h : i < xs.length), W.cells? 0 (a.add (i * K)) K = some (g xs[i]) ∧ Q xs[i] (D i) := by
      clear hx hl hlm hmm hf
      induction len with
      | zero => exact ⟨[], rfl, fun i h => by simp at h⟩
      | succ k ih =>
        obtain ⟨xs, h1, h2⟩ := ih (fun i hi => hc i (by omega))
        obtain ⟨x, h3, h4⟩ := hc k (by omega)
        refine ⟨xs ++ [x], by simp [h1], fun i h => ?_⟩
        by_cases e : i < xs.length
        · rw [List.getElem_append_left e]; exact h2 i e
        · have ei : i = k := by simp at h; omega
          subst ei
          rw [List.getElem_append_right (by omega)]
          simp [h1, h3, h4]
    subst hxl
    have hb : ∀ i, i < xs.length → D i ∈ (List.range xs.length).map D := fun i hi => List.mem_map.2 ⟨i, List.mem_range.2 hi, rfl⟩
    refine ⟨some a, cap, xs, rfl, ⟨some a, cap, rfl, flatM_len hg xs, hl, by unfold maxLen at hm; omega, ?_⟩, ?_, fun x hxm => ?_⟩
    · by_cases h0 : xs.length = 0
      · exact .inl ⟨h0, fun e => by cases e⟩
      · obtain ⟨b, off, spot⟩ := a
        have hspot : spot = none := by
          have h1 := (World.cells?_some (hxs 0 (by omega)).1).2.2 0 hK0
          have h2 : (g xs[0])[0]? = some ((g xs[0])[0]'(by rw [hg]; exact hK0)) := by simp
          rw [h2] at h1
          simpa [Addr.add] using World.cell?_spot h1
        subst hspot
        refine .inr ⟨b, off, rfl, trivial, fun j u hu => ?_⟩
        have hj : j < xs.length * K := by rw [← flatM_len hg xs]; exact (List.getElem?_eq_some_iff.1 hu).1
        have hi : j / K < xs.length := (Nat.div_lt_iff_lt_mul hK0).2 hj
        have hr : j % K < K := Nat.mod_lt _ hK0
        have hjj : j / K * K + j % K = j := by rw [Nat.mul_comm]; exact Nat.div_add_mod j K
        have h2 : (g xs[j / K])[j % K]? = some ((g xs[j / K])[j % K]'(by rw [hg]; exact hr)) := by simp
        have h3 := flatM_get hg xs (j / K) (j % K) xs[j / K] _ (by simp [hi]) h2
        rw [hjj] at h3
        rw [h3] at hu
        have h1 := (World.cells?_some (hxs (j / K) hi).1).2.2 (j % K) hr
        have hadd : ((⟨b, off, none⟩ : Addr).add (j / K * K)).add (j % K) = ⟨b, off + j, none⟩ := by
          have e1 : ∀ (o i : Nat), (⟨b, o, none⟩ : Addr).add i = ⟨b, o + i, none⟩ := fun o i => by unfold Addr.add; split <;> simp_all
          rw [e1, e1, Nat.add_assoc, hjj]
        rw [hadd, h2] at h1
        rw [h1]
        exact hu
    · simp only [Rows.uptoBulk]
      have := bulk_length ((List.range xs.length).map D)
      simp at this
      omega
    · obtain ⟨i, hi, rfl⟩ := List.mem_iff_getElem.1 hxm
      refine ⟨D i, (hxs i hi).2, ?_⟩
      have := bulk_mem (hb i hi)
      simp only [Rows.uptoBulk]
      omega
/-- What a text that was read is. -/
def okX (b : Nat) (x : List Int) : Prop := TxA x ∧ x.length + 1 ≤ b
theorem str_open {n : Nat} {v : Value} {y : DataW H × List MemPlace} (h : DataW.trod enc Tryz.prog W 0 spare held n 9 [v] = some y) : ∃ x : List Int, v = .string (strOfNums x) ∧ okX (Rows.uptoBulk y.1) x := by
  obtain ⟨s, e, rfl, hs⟩ := DataW.trod_string Tryz.underlying9 h
  simp at e
  subst e
  refine ⟨numsS s, by rw [numsS_str], ⟨numsS_bd s, ?_⟩, ?_⟩
  · rw [numsS_len]
    unfold maxLen at hs
    simpa using hs
  · rw [numsS_len]
    simp [Rows.uptoBulk]
theorem int_open {n : Nat} {v : Value} {y : DataW H × List MemPlace} (h : DataW.trod enc Tryz.prog W 0 spare held n 3 [v] = some y) : ∃ x : Int, v = .int .i64 x ∧ I64 x := by
  obtain ⟨x, e, rfl, hs⟩ := DataW.trod_int Tryz.underlying3 h
  simp at e
  subst e
  refine ⟨x, rfl, ?_⟩
  unfold I64
  simp [Lit.wf, IntKind.min, IntKind.max, IntKind.signed, IntKind.bits] at hs
  omega
end
end Go.Proofs.YtgephggcgopfgaaGreatDoor
namespace Go.Proofs.YtgephggcgopfgaaGreatDoor
open Go.ChangeShapes Go.WideShapes Go.ChangeAt Go.RowKit Go.Deep
set_option maxRecDepth 1000000
set_option linter.unusedVariables false
set_option linter.unusedSimpArgs false
set_option maxHeartbeats 1000000
theorem fieldsF : ∃ f0 f1 f2 f3 f4 f5 f6, Tryz.prog.underlying 82 = some (.struct #[f0, f1, f2, f3, f4, f5, f6]) ∧ oneCellFields Tryz.prog #[f0, f1, f2, f3, f4, f5, f6] = true ∧ Tryz.prog.cellsOf 82 = 7 ∧ f0.type = 9 ∧ f1.type = 3 ∧ f2.type = 3 ∧ f3.type = 3 ∧ f4.type = 3 ∧ f5.type = 3 ∧ f6.type = 3 :=
  ⟨_, _, _, _, _, _, _, Tryz.underlying82, by kernel_rfl, by kernel_rfl, by kernel_rfl, by kernel_rfl, by kernel_rfl, by kernel_rfl, by kernel_rfl, by kernel_rfl, by kernel_rfl⟩
theorem fieldsS : ∃ f0 f1, Tryz.prog.underlying 80 = some (.struct #[f0, f1]) ∧ oneCellFields Tryz.prog #[f0, f1] = true ∧ Tryz.prog.cellsOf 80 = 2 ∧ f0.type = 9 ∧ f1.type = 3 :=
  ⟨_, _, Tryz.underlying80, by kernel_rfl, by kernel_rfl, by kernel_rfl, by kernel_rfl⟩
theorem fieldsR : ∃ f0 f1, Tryz.prog.underlying 162 = some (.struct #[f0, f1]) ∧ oneCellFields Tryz.prog #[f0, f1] = true ∧ Tryz.prog.cellsOf 162 = 2 ∧ f0.type = 3 ∧ f1.type = 3 :=
  ⟨_, _, Tryz.underlying162, by kernel_rfl, by kernel_rfl, by kernel_rfl, by kernel_rfl⟩
theorem fieldsT : ∃ f0 f1 f2 f3 f4 f5, Tryz.prog.underlying 71 = some (.struct #[f0, f1, f2, f3, f4, f5]) ∧ oneCellFields Tryz.prog #[f0, f1, f2, f3, f4, f5] = true ∧ Tryz.prog.cellsOf 71 = 6 ∧ f0.type = 9 ∧ f1.type = 4 ∧ f2.type = 66 ∧ f3.type = 67 ∧ f4.type = 68 ∧ f5.type = 69 :=
  ⟨_, _, _, _, _, _, Tryz.underlying71, by kernel_rfl, by kernel_rfl, by kernel_rfl, by kernel_rfl, by kernel_rfl, by kernel_rfl, by kernel_rfl, by kernel_rfl⟩
theorem list_eq {cs : List Value} : ∀ (l : List Value), cs.length = l.length → (∀ (i : Nat) (v : Value), l[i]? = some v → cs[i]? = some v) → cs = l := fun l hl h => by
  apply List.ext_getElem? 
  intro i
  by_cases hi : i < l.length
  · rw [h i l[i] (by simp [hi])]; simp [hi]
  · rw [List.getElem?_eq_none (by omega), List.getElem?_eq_none (by omega)]
section
variable {H : Type} {enc : TypeId × Value → H} {W : World} {spare : Nat → Bool} {held : Bool}
theorem ft_open (n : Nat) (cs : List Value) (y : DataW H × List MemPlace) (h : DataW.trod enc Tryz.prog W 0 spare held n 82 cs = some y) : ∃ x : FT, cs = cFT x ∧ okX (Rows.uptoBulk y.1) x.name := by
  obtain ⟨f0, f1, f2, f3, f4, f5, f6, hs, hone, hsz, t0, t1, t2, t3, t4, t5, t6⟩ := fieldsF
  obtain ⟨xs, m, hy, hxl, hcl, hi⟩ := struct_open hs hone hsz h
  obtain ⟨v0, y0, c0, x0, h0⟩ := hi 0 f0 rfl
  rw [t0] at h0
  obtain ⟨v1, y1, c1, x1, h1⟩ := hi 1 f1 rfl
  rw [t1] at h1
  obtain ⟨v2, y2, c2, x2, h2⟩ := hi 2 f2 rfl
  rw [t2] at h2
  obtain ⟨v3, y3, c3, x3, h3⟩ := hi 3 f3 rfl
  rw [t3] at h3
  obtain ⟨v4, y4, c4, x4, h4⟩ := hi 4 f4 rfl
  rw [t4] at h4
  obtain ⟨v5, y5, c5, x5, h5⟩ := hi 5 f5 rfl
  rw [t5] at h5
  obtain ⟨v6, y6, c6, x6, h6⟩ := hi 6 f6 rfl
  rw [t6] at h6
  obtain ⟨a0, rfl, k0⟩ := str_open h0
  obtain ⟨a1, rfl, k1⟩ := int_open h1
  obtain ⟨a2, rfl, k2⟩ := int_open h2
  obtain ⟨a3, rfl, k3⟩ := int_open h3
  obtain ⟨a4, rfl, k4⟩ := int_open h4
  obtain ⟨a5, rfl, k5⟩ := int_open h5
  obtain ⟨a6, rfl, k6⟩ := int_open h6
  refine ⟨⟨a0, a1, a2, a3, a4, a5, a6⟩, list_eq _ (by rw [hcl]; rfl) fun i v hv => ?_, k0.1, ?_⟩
  · match i, hv with
    | 0, hv => simp [cFT] at hv; subst hv; exact c0
    | 1, hv => simp [cFT] at hv; subst hv; exact c1
    | 2, hv => simp [cFT] at hv; subst hv; exact c2
    | 3, hv => simp [cFT] at hv; subst hv; exact c3
    | 4, hv => simp [cFT] at hv; subst hv; exact c4
    | 5, hv => simp [cFT] at hv; subst hv; exact c5
    | 6, hv => simp [cFT] at hv; subst hv; exact c6
    | i + 7, hv => simp [cFT] at hv
  · have := bulk_get x0
    rw [hy]
    have := k0.2
    dsimp only
    omega
theorem sy_open (n : Nat) (cs : List Value) (y : DataW H × List MemPlace) (h : DataW.trod enc Tryz.prog W 0 spare held n 80 cs = some y) : ∃ x : SY, cs = cSY x ∧ (okX (Rows.uptoBulk y.1) x.name ∧ I64 x.num) := by
  obtain ⟨f0, f1, hs, hone, hsz, t0, t1⟩ := fieldsS
  obtain ⟨xs, m, hy, hxl, hcl, hi⟩ := struct_open hs hone hsz h
  obtain ⟨v0, y0, c0, x0, h0⟩ := hi 0 f0 rfl
  rw [t0] at h0
  obtain ⟨v1, y1, c1, x1, h1⟩ := hi 1 f1 rfl
  rw [t1] at h1
  obtain ⟨a0, rfl, k0⟩ := str_open h0
  obtain ⟨a1, rfl, k1⟩ := int_open h1
  refine ⟨⟨a0, a1⟩, list_eq _ (by rw [hcl]; rfl) fun i v hv => ?_, ⟨k0.1, ?_⟩, k1⟩
  · match i, hv with
    | 0, hv => simp [cSY] at hv; subst hv; exact c0
    | 1, hv => simp [cSY] at hv; subst hv; exact c1
    | i + 2, hv => simp [cSY] at hv
  · have := bulk_get x0
    rw [hy]
    have := k0.2
    dsimp only
    omega
theorem rg_open (n : Nat) (cs : List Value) (y : DataW H × List MemPlace) (h : DataW.trod enc Tryz.prog W 0 spare held n 162 cs = some y) : ∃ x : RG, cs = cRG x ∧ True := by
  obtain ⟨f0, f1, hs, hone, hsz, t0, t1⟩ := fieldsR
  obtain ⟨xs, m, hy, hxl, hcl, hi⟩ := struct_open hs hone hsz h
  obtain ⟨v0, y0, c0, x0, h0⟩ := hi 0 f0 rfl
  rw [t0] at h0
  obtain ⟨v1, y1, c1, x1, h1⟩ := hi 1 f1 rfl
  rw [t1] at h1
  obtain ⟨a0, rfl, k0⟩ := int_open h0
  obtain ⟨a1, rfl, k1⟩ := int_open h1
  refine ⟨⟨a0, a1⟩, list_eq _ (by rw [hcl]; rfl) fun i v hv => ?_, trivial⟩
  match i, hv with
  | 0, hv => simp [cRG] at hv; subst hv; exact c0
  | 1, hv => simp [cRG] at hv; subst hv; exact c1
  | i + 2, hv => simp [cRG] at hv
theorem st_open (n : Nat) (cs : List Value) (y : DataW H × List MemPlace) (h : DataW.trod enc Tryz.prog W 0 spare held n 9 cs = some y) : ∃ x : List Int, cs = cN x ∧ okX (Rows.uptoBulk y.1) x := by
  obtain ⟨s, e, _⟩ := DataW.trod_string Tryz.underlying9 h
  subst e
  obtain ⟨x, e, k⟩ := str_open h
  exact ⟨x, by rw [e]; rfl, k⟩
theorem tv_open (n : Nat) (cs : List Value) (y : DataW H × List MemPlace) (h : DataW.trod enc Tryz.prog W 0 spare held n 71 cs = some y) : ∃ x : TV, cs = cTV x ∧ (TyR W x ∧ (Rows.uptoBulk y.1 ≤ 1048576 → OkV x ∧ x.t.name.length < 4000000)) := by
  obtain ⟨f0, f1, f2, f3, f4, f5, hs, hone, hsz, t0, t1, t2, t3, t4, t5⟩ := fieldsT
  obtain ⟨xs, m, hy, hxl, hcl, hi⟩ := struct_open hs hone hsz h
  obtain ⟨v0, y0, c0, x0, h0⟩ := hi 0 f0 rfl
  rw [t0] at h0
  have b0 := bulk_get x0
  obtain ⟨v1, y1, c1, x1, h1⟩ := hi 1 f1 rfl
  rw [t1] at h1
  have b1 := bulk_get x1
  obtain ⟨v2, y2, c2, x2, h2⟩ := hi 2 f2 rfl
  rw [t2] at h2
  have b2 := bulk_get x2
  obtain ⟨v3, y3, c3, x3, h3⟩ := hi 3 f3 rfl
  rw [t3] at h3
  have b3 := bulk_get x3
  obtain ⟨v4, y4, c4, x4, h4⟩ := hi 4 f4 rfl
  rw [t4] at h4
  have b4 := bulk_get x4
  obtain ⟨v5, y5, c5, x5, h5⟩ := hi 5 f5 rfl
  rw [t5] at h5
  have b5 := bulk_get x5
  rw [← hy] at b0 b1 b2 b3 b4 b5
  obtain ⟨a0, rfl, k0⟩ := str_open h0
  obtain ⟨e1, he1, _⟩ := DataW.trod_bool Tryz.underlying4 h1
  simp at he1
  subst he1
  obtain ⟨fa, fc, fs, rfl, rf, lf, qf⟩ := rows_open cFT 7 (by decide) (fun x d => okX (Rows.uptoBulk d) x.name) Tryz.underlying66 (by kernel_rfl) (fun _ => rfl) ft_open h2
  obtain ⟨oa, oc, os, rfl, ro, lo, qo⟩ := rows_open cN 1 (by decide) (fun x d => okX (Rows.uptoBulk d) x) Tryz.underlying67 (by kernel_rfl) (fun _ => rfl) st_open h3
  obtain ⟨sa, sc, ss, rfl, rs, ls, qs⟩ := rows_open cSY 2 (by decide) (fun x d => okX (Rows.uptoBulk d) x.name ∧ I64 x.num) Tryz.underlying68 (by kernel_rfl) (fun _ => rfl) sy_open h4
  obtain ⟨ra, rc, gs, rfl, rr, lr, qr⟩ := rows_open cRG 2 (by decide) (fun _ _ => True) Tryz.underlying69 (by kernel_rfl) (fun _ => rfl) rg_open h5
  refine ⟨⟨⟨a0, e1, fs, os, ss, gs⟩, _, _, _, _⟩, list_eq _ (by rw [hcl]; rfl) fun i v hv => ?_, ⟨rf, ro, rs, rr⟩, fun hb => ⟨⟨⟨k0.1, fun x hx => ?_, fun x hx => ?_, fun x hx => ?_⟩, ?_, ?_⟩, ?_⟩⟩
  · match i, hv with
    | 0, hv => simp [cTV] at hv; subst hv; exact c0
    | 1, hv => simp [cTV] at hv; subst hv; exact c1
    | 2, hv => simp [cTV] at hv; subst hv; exact c2
    | 3, hv => simp [cTV] at hv; subst hv; exact c3
    | 4, hv => simp [cTV] at hv; subst hv; exact c4
    | 5, hv => simp [cTV] at hv; subst hv; exact c5
    | i + 6, hv => simp [cTV] at hv
  · obtain ⟨d, hd, _⟩ := qf x hx
    exact hd.1
  · obtain ⟨d, hd, _⟩ := qo x hx
    exact hd.1
  · obtain ⟨d, hd, _⟩ := qs x hx
    exact ⟨hd.1.1, hd.2⟩
  · have := k0.2
    dsimp only
    omega
  · dsimp only
    omega
  · have := k0.2
    dsimp only
    omega
theorem fieldsB : ∃ f0, Tryz.prog.underlying 46 = some (.struct #[f0]) ∧ oneCellFields Tryz.prog #[f0] = true ∧ Tryz.prog.cellsOf 46 = 1 ∧ Tryz.prog.underlying f0.type = some (.slice 71) :=
  ⟨_, Tryz.underlying46, by kernel_rfl, by kernel_rfl, by kernel_rfl⟩
theorem tb_open {n : Nat} {v : Value} {y : DataW H × List MemPlace} (h : DataW.trod enc Tryz.prog W 0 spare held n 46 [v] = some y) : ∃ (a : Option Addr) (c : Nat) (l : List TV), v = .slice a l.length c ∧ TbR W (.slice a l.length c) l ∧ (Rows.uptoBulk y.1 ≤ 1048576 → ∀ x ∈ l, OkV x ∧ x.t.name.length < 4000000) := by
  obtain ⟨f0, hs, hone, hsz, t0⟩ := fieldsB
  obtain ⟨xs, m, hy, hxl, hcl, hi⟩ := struct_open hs hone hsz h
  obtain ⟨v0, y0, c0, x0, h0⟩ := hi 0 f0 rfl
  simp at c0
  subst c0
  have b0 := bulk_get x0
  rw [← hy] at b0
  obtain ⟨a, c, l, rfl, r, hl, q⟩ := rows_open cTV 6 (by decide) (fun x d => TyR W x ∧ (Rows.uptoBulk d ≤ 1048576 → OkV x ∧ x.t.name.length < 4000000)) t0 (by kernel_rfl) (fun _ => rfl) tv_open h0
  exact ⟨a, c, l, rfl, ⟨r, fun x hx => by obtain ⟨d, hd, _⟩ := q x hx; exact hd.1⟩, fun hb x hx => by obtain ⟨d, hd, hdb⟩ := q x hx; exact hd.2 (by omega)⟩
end
end Go.Proofs.YtgephggcgopfgaaGreatDoor
