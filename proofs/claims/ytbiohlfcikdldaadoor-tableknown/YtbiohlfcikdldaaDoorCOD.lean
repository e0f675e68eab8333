/-
  Depths: what the program answers.
  Depths: what the document answers.
  A name's names (the document's).
  A type's name by what stands ahead (the document's).
  An enum's type (the document's).
  A field by itself (the document's): what it answers.
  A message's type: what the document answers.
  A field by itself (the document's): kinds below 16.
  A field by itself (the document's): enums.
  A field by itself (the document's): messages.
  A field by itself (the document's): whole.
  A message's type (the document's).
  A table is good: what the document answers.
  Both answers about names are one.
  Both answers about an enum are one.
  Both answers about a message are one.
  Both answers about a table are one.
  Is, Field, Named, Wire, Takes: what the document answers.
  The law: any table, good or not; any name.
  The law: any symbol by number or name; how deep any message can be.
  The law: chapter 7's examples.
  What comes in, opened: strings; and what the bound on it says.
  A table that comes in, opened.
  A table that comes in, opened: fields, symbols, ranges, types.
  The variables of Go's library that the rows list: a world that lays them; the one that is named alone.
-/
import Derived.Test.YtbiohlfcikdldaaDoorCNV
import Derived.Test.YtbiohlfcikdldaaDoorCTP
import Derived.Test.YtbiohlfcikdldaaDoorCTY
import Derived.Test.YtbiohlfcikdldaaDoorCTA
import Derived.Test.YtbiohlfcikdldaaDoorRows
import Derived.Stop.LaidErr
import Derived.Deep.DeepHandedRow
import Derived.Deep.DeepWitnessRowRef
import Derived.LaidLaws
namespace Go.Proofs.YtbiohlfcikdldaaDoor
open Go.RowKit
set_option maxRecDepth 1000000
set_option linter.unusedVariables false
set_option linter.unusedSimpArgs false
set_option maxHeartbeats 2000000
/-- What both answer. -/
def depD (l : List TV) (k : Nat) : Nat := if l.length < dep (gOf l) (l.length + 1) k then 0 else dep (gOf l) (l.length + 1) k
theorem depD_deep (l : List TV) (k : Nat) : Deep (gOf l) l.length k (depD l k) := dep_deep _ _ _
theorem zero_noB : Tryd.zeroCells77 = bsV noB := by kernel_rfl
theorem depthsNo (w : World) (l : List TV) (ta : Option Addr) (tc : Nat) (h : TbR w (.slice ta l.length tc) l) (hk : ∀ x ∈ l, OkV x) (m : Int) (hm : w.cell? ⟨0, 0, none⟩ = some (.int .i64 m)) (idx : Int) (q : isB l idx false = false) : Calls Tryd.prog 14 #[.agg #[.slice ta l.length tc], .int .i64 idx] w fun e w' => e = .returned (.tuple #[.int .i64 0, .int .i64 18]) ∧ Below w.heap.size w w' := by
  have HTA := hid fun W (hW : Below w.heap.size w W) => typeAtNo W l ta tc (h.kept hW) hk m (cell_below hm hW) idx false q
  clear h hk hm q
  go_enter Tryd.func14, Tryd.ntmps14
  go_wp2_with fail
  refine (HTA.out _ (by exact blBy)).mono ?_
  rintro e w1 ⟨rfl, hb1⟩
  replace hb1 : Hid (Below w.heap.size w w1) := hid (bl_then (by exact blBy) hb1)
  go_wp2
  go_ret2
  exact ⟨rfl, by have := hb1.out; exact blBy⟩
theorem depthsOk (w : World) (l : List TV) (ta : Option Addr) (tc : Nat) (h : TbR w (.slice ta l.length tc) l) (hk : ∀ x ∈ l, OkV x) (m : Int) (hm : w.cell? ⟨0, 0, none⟩ = some (.int .i64 m)) (k : Nat) (hkl : k < l.length) (hg : goodB l = true) (he : l[k].t.enum = false) : Calls Tryd.prog 14 #[.agg #[.slice ta l.length tc], .int .i64 (k : Int)] w fun e w' => e = .returned (.tuple #[.int .i64 (depD l k), .int .i64 0]) ∧ Below w.heap.size w w' := by
  have HTA := hid fun W (hW : Below w.heap.size w W) => typeAtOk W l ta tc (h.kept hW) hk m (cell_below hm hW) k hkl hg he
  have HTY := hid (h.ty _ (List.getElem_mem hkl))
  have HL := hid (good_len hg)
  have HG := hid hg
  have HT := hid h
  have HKL := hid hkl
  have h128 : (k : Int) < 128 := by have := HL.out; omega
  have hn : (l.length : Int) ≤ 128 := by have := HL.out; omega
  have n0 : k < 128 := by omega
  clear h hk hm hg
  have HX : Hid (∀ d, Deep (gOf l) l.length k d → d = depD l k) := hid fun d hd => deep_one hd (depD_deep l k)
  generalize depD l k = res at *
  generalize hxe : l[k] = x at *
  clear hxe
  obtain ⟨t, f, o, s, r⟩ := x
  obtain ⟨fa, fc, ef, -⟩ := rowS_sl HTY.out.f
  obtain ⟨oa, oc, eo, -⟩ := rowS_sl HTY.out.o
  obtain ⟨sa, sc, es, -⟩ := rowS_sl HTY.out.s
  obtain ⟨ra, rc, er, -⟩ := rowS_sl HTY.out.r
  dsimp only at ef eo es er
  subst ef eo es er
  dsimp only at HTA he
  clear HTY he
  go_enter Tryd.func14, Tryd.ntmps14
  go_wp2_with fail
  refine (HTA.out _ (by exact blBy)).mono ?_
  rintro e w1 ⟨rfl, hb1⟩
  have Ba : Blk w1 w.heap.size 24 #[.slice ta l.length tc] := (Blk.new _ _ _).kept hb1
  replace hb1 : Hid (Below w.heap.size w w1) := hid (bl_then (by exact blBy) hb1)
  clear hkl HTA
  have zaa := Ba.lt
  go_upto_region 5 with fail
  have Bh : Blk (((w1.alloc (.cells #[.string (strOfNums t.name), .bool false, .slice fa t.fs.length fc, .slice oa t.os.length oc, .slice sa t.ss.length sc, .slice ra t.rs.length rc] 62)).alloc (.cells Tryd.zeroCells77 77)).alloc (.cells Tryd.zeroCells77 77)) (w1.heap.size + 1) 77 (bsV noB) := ((Blk.newAt (by simp)).kept (below_alloc _)).is zero_noB
  have Bb : Blk (((w1.alloc (.cells #[.string (strOfNums t.name), .bool false, .slice fa t.fs.length fc, .slice oa t.os.length oc, .slice sa t.ss.length sc, .slice ra t.rs.length rc] 62)).alloc (.cells Tryd.zeroCells77 77)).alloc (.cells Tryd.zeroCells77 77)) (w1.heap.size + 1 + 1) 77 (bsV noB) := (Blk.newAt (by simp)).is zero_noB
  replace Ba := ((Ba.kept (below_alloc (.cells #[.string (strOfNums t.name), .bool false, .slice fa t.fs.length fc, .slice oa t.os.length oc, .slice sa t.ss.length sc, .slice ra t.rs.length rc] 62))).kept (below_alloc (.cells Tryd.zeroCells77 77))).kept (below_alloc (.cells Tryd.zeroCells77 77))
  have HS : Hid (w.heap.size < w1.heap.size) := hid zaa
  replace hb1 : Hid (Below w.heap.size w (((w1.alloc (.cells #[.string (strOfNums t.name), .bool false, .slice fa t.fs.length fc, .slice oa t.os.length oc, .slice sa t.ss.length sc, .slice ra t.rs.length rc] 62)).alloc (.cells Tryd.zeroCells77 77)).alloc (.cells Tryd.zeroCells77 77))) := hid (by have := hb1.out; exact blBy)
  generalize (((w1.alloc (.cells #[.string (strOfNums t.name), .bool false, .slice fa t.fs.length fc, .slice oa t.os.length oc, .slice sa t.ss.length sc, .slice ra t.rs.length rc] 62)).alloc (.cells Tryd.zeroCells77 77)).alloc (.cells Tryd.zeroCells77 77)) = W at *
  have hph : w.heap.size < w1.heap.size + 1 := by have := HS.out; omega
  clear HS zaa
  generalize hpe : w1.heap.size + 1 = ph at *
  clear hpe
  have hab : w.heap.size ≠ ph := by omega
  have hac : w.heap.size ≠ ph + 1 := by omega
  have ch := Bh.cell k _ (bsV_get (show k < noB.length by simp [noB]; omega))
  have yh := Bh.frozen k
  have zh := Bh.lt
  go_upto_region 6 with fail
  replace Ba := Ba.other (a := ⟨ph, k, none⟩) hab (.bool true)
  replace Bb := Bb.other (a := ⟨ph, k, none⟩) (show ph + 1 ≠ ph by omega) (.bool true)
  replace Bh := (Bh.set k (.bool true)).is (bsV_set noB k)
  replace hb1 : Hid (Below w.heap.size w (W.setCell ⟨ph, k, none⟩ (.bool true))) := hid (hb1.out.trans ((Keep.setCell (f := fun b => b ≠ ph) W ⟨ph, k, none⟩ (.bool true) (by simp)).below hb1.out.size (fun b hb => by omega)))
  clear ch yh zh
  generalize W.setCell ⟨ph, k, none⟩ (.bool true) = W2 at *
  have HBh := hid Bh
  have HBb := hid Bb
  have HBa := hid Ba
  have xa := Ba.cellF
  have za := Ba.lt
  clear Ba Bb Bh
  have n1 : (l.length : Int) + 1 ≤ 9223372036854775807 := by omega
  have n2 : -9223372036854775808 ≤ (l.length : Int) + 1 := by omega
  go_wp2
  go_loopw [28] (fun r wr => ∃ (d : Nat) (hs bs : List Bool), r = .int .i64 (d : Int) ∧ d ≤ l.length + 1 ∧ Hid (MkAt l d k hs) ∧ Hid (∀ j, j < d → Way (gOf l) j k) ∧ Hid (bs.length = 128) ∧ Hid (Blk wr ph 77 (bsV hs)) ∧ Hid (Blk wr (ph + 1) 77 (bsV bs)) ∧ Hid (Blk wr w.heap.size 24 #[.slice ta l.length tc]) ∧ Hid (Below w.heap.size w wr)) (fun r wr => l.length + 1 - numAt wr r)
  case atStart => exact ⟨0, noB.set k true, noB, rfl, by omega, hid (mk_zero n0), hid (fun j hj => by omega), hid (by simp [noB]), HBh, HBb, HBa, hb1⟩
  case round =>
    clear HBh HBb HBa hb1 xa za
    obtain ⟨d, hs, bs, rfl, hd, HMK, HWY, HLB, HBh, HBb, HBa, hb⟩ := hrel
    by_cases hlt : d < l.length + 1
    · have h2 : (d : Int) < (l.length : Int) + 1 := by omega
      have HEQ := bs_eql hs noB HMK.out.len (by simp [noB]) wr
      rw [← zero_noB] at HEQ
      go_upto_region 9 with fail
      refine wp_region_lit ?_
      refine wpList_bs_load rfl (.tmp 8) rfl rfl HBh.out HMK.out.len ?_
      by_cases hz : hs = noB
      · rw [decide_eq_true hz] at HEQ
        have HR : Hid (d = res) := hid (HX.out d (.inr ⟨by omega, mk_none (by rw [← hz]; exact HMK.out), HWY.out⟩))
        replace hz := hid hz
        go_wp2
        go_ret2
        cases HR.out
        exact ⟨rfl, hb.out⟩
      · rw [decide_eq_false hz] at HEQ
        have HWn : Hid (∀ j, j < d + 1 → Way (gOf l) j k) := hid (fun j hj => by
          by_cases e : j = d
          · subst e; exact mk_some HMK.out hz
          · exact HWY.out j (by omega))
        replace hz := hid hz
        obtain ⟨wc, HCL, Bb, hKc⟩ := bs_clear HBb.out HLB.out 0
        have HKc := hid hKc
        replace HBb := hid Bb
        replace HBh := hid (HBh.out.keep hKc (by omega))
        replace HBa := hid (HBa.out.keep hKc (by omega))
        have hbc : Hid (Below w.heap.size w wc) := hid (hb.out.trans (hKc.below hb.out.size (fun b hb => by omega)))
        clear Bb hKc
        go_upto_region 12 with fail
        clear HCL HEQ HKc hb HLB
        have xa := HBa.out.cellF
        have za := HBa.out.lt
        have hN := HBh.out.lt
        go_wp2
        go_loopw [39] (fun r wr => ∃ i : Nat, r = .int .i64 (i : Int) ∧ i ≤ l.length ∧ Hid (Blk wr ph 77 (bsV hs)) ∧ Hid (Blk wr (ph + 1) 77 (bsV (lvl l hs i))) ∧ Hid (Blk wr w.heap.size 24 #[.slice ta l.length tc]) ∧ Hid (Below w.heap.size w wr)) (fun r wr => l.length - numAt wr r)
        case atStart => exact ⟨0, rfl, by omega, HBh, HBb, HBa, hbc⟩
        case round =>
          clear HBh HBb HBa hbc xa za hN
          obtain ⟨i, rfl, hi, HBh, HBb, HBa, hbi⟩ := hrel
          by_cases hil : i < l.length
          · have h3 : (i : Int) < (l.length : Int) := by omega
            have i128 : i < 128 := by omega
            have i4 : (i : Int) < 128 := by omega
            have HTY := hid ((HT.out.ty _ (List.getElem_mem hil)))
            obtain ⟨tb, tof, hta, hbl, c0, c1, c2, c3, c4, c5⟩ := row6 HT.out.row hil
            subst hta
            have HRF := hid (fun f hf h17 => good_ref HG.out hil (f := f) hf h17)
            have HLV := hid (lvl_succ l hs i)
            have HLL := hid (lvl_len l hs i)
            have HST : Hid (stp l hs (lvl l hs i) i = if hs[i]? = some true then l[i].t.fs.foldl markF (lvl l hs i) else lvl l hs i) := hid (by unfold stp; rw [fsOf_at hil])
            have hll : hs.length = 128 := HMK.out.len
            have zx0 : ph + 1 < wr.heap.size := HBb.out.lt
            obtain ⟨mb, hmb⟩ : ∃ mb, hs[i]? = some mb := ⟨_, List.getElem?_eq_getElem (show i < hs.length by omega)⟩
            have HGT : Hid ((bsV hs)[i]? = some (.bool mb)) := hid (by unfold bsV; simp [hmb])
            rw [hmb] at HST
            clear hll hmb
            generalize l[i] = x at *
            obtain ⟨fa2, fc2, ef, -⟩ := rowS_sl HTY.out.f
            obtain ⟨oa2, oc2, eo, -⟩ := rowS_sl HTY.out.o
            obtain ⟨sa2, sc2, es, -⟩ := rowS_sl HTY.out.s
            obtain ⟨ra2, rc2, er, -⟩ := rowS_sl HTY.out.r
            have HRW : Hid (RowS w (fun b => b < w.heap.size) 7 (.slice fa2 x.t.fs.length fc2) x.t.fs.length (x.t.fs.flatMap cFT)) := hid (by rw [← ef]; exact row_old (by omega) HTY.out.f)
            rw [ef] at c2
            rw [eo] at c3
            rw [es] at c4
            rw [er] at c5
            clear ef eo es er HTY
            generalize lvl l hs i = bs2 at *
            replace c0 := cell_below c0 hbi.out
            replace c1 := cell_below c1 hbi.out
            replace c2 := cell_below c2 hbi.out
            replace c3 := cell_below c3 hbi.out
            replace c4 := cell_below c4 hbi.out
            replace c5 := cell_below c5 hbi.out
            replace hbl : tb < wr.heap.size := World.block_lt_of_cell? _ _ c0
            go_upto_region 15 with fail
            have BX : Blk (wr.alloc (.cells #[.string (strOfNums x.t.name), .bool x.t.enum, .slice fa2 x.t.fs.length fc2, .slice oa2 x.t.os.length oc2, .slice sa2 x.t.ss.length sc2, .slice ra2 x.t.rs.length rc2] 62)) wr.heap.size 62 #[.string (strOfNums x.t.name), .bool x.t.enum, .slice fa2 x.t.fs.length fc2, .slice oa2 x.t.os.length oc2, .slice sa2 x.t.ss.length sc2, .slice ra2 x.t.rs.length rc2] := Blk.new _ _ _
            have hK3 : Hid (Keep (fun _ => True) wr (wr.alloc (.cells #[.string (strOfNums x.t.name), .bool x.t.enum, .slice fa2 x.t.fs.length fc2, .slice oa2 x.t.os.length oc2, .slice sa2 x.t.ss.length sc2, .slice ra2 x.t.rs.length rc2] 62))) := hid (Keep.ofBelow (below_alloc _))
            have hbx : Hid (Below w.heap.size w (wr.alloc (.cells #[.string (strOfNums x.t.name), .bool x.t.enum, .slice fa2 x.t.fs.length fc2, .slice oa2 x.t.os.length oc2, .slice sa2 x.t.ss.length sc2, .slice ra2 x.t.rs.length rc2] 62))) := hid (by have := hbi.out; exact blBy)
            replace HBh := hid (HBh.out.keep hK3.out trivial)
            replace HBb := hid (HBb.out.keep hK3.out trivial)
            replace HBa := hid (HBa.out.keep hK3.out trivial)
            clear c0 c1 c2 c3 c4 c5 hbl hK3 hbi
            generalize wr.alloc (.cells #[.string (strOfNums x.t.name), .bool x.t.enum, .slice fa2 x.t.fs.length fc2, .slice oa2 x.t.os.length oc2, .slice sa2 x.t.ss.length sc2, .slice ra2 x.t.rs.length rc2] 62) = W3 at *
            generalize wr.heap.size = px at *
            have xh := HBh.out.cellF
            have yh : (bsV hs)[i]? = some (.bool mb) := HGT.out
            have zh := HBh.out.lt
            have xx := BX.cellF
            have zx := BX.lt
            cases mb with
            | false =>
              rw [if_neg (by simp)] at HST
              go_wp2
              exact ⟨⟨i + 1, by simp, by omega, HBh, hid (by rw [HLV.out, HST.out]; exact HBb.out), HBa, hbx⟩, by simp [numAt]; omega⟩
            | true =>
              rw [if_pos rfl] at HST
              go_wp2_with fail
              refine (addT x.t.fs _ fa2 fc2 (ph + 1) bs2 _ rfl ((HRW.out.keep (f := fun b => b ≠ ph + 1) (Keep.ofBelow hbx.out) (fun b hb => by omega)).weak (fun b hb => by omega)) HBb.out HLL.out (fun f hf h17 => by have := HRF.out f hf h17; omega)).mono ?_
              rintro e w4 ⟨rfl, Bb4, hK4⟩
              have Bh4 := HBh.out.keep hK4 (by omega)
              have Ba4 := HBa.out.keep hK4 (by omega)
              have hb4 : Hid (Below w.heap.size w w4) := hid (hbx.out.trans (hK4.below hbx.out.size (fun b hb => by omega)))
              have HB4 := hid Bb4
              replace Bh4 := hid Bh4
              replace Ba4 := hid Ba4
              clear Bb4 hK4 xh yh zh xx zx
              go_wp2
              exact ⟨⟨i + 1, by simp, by omega, Bh4, hid (by rw [HLV.out, HST.out]; exact HB4.out), Ba4, hb4⟩, by simp [numAt]; omega⟩
          · have h3 : ¬ (i : Int) < (l.length : Int) := by omega
            have ei : i = l.length := by omega
            rw [ei] at HBb
            clear ei
            have HLL := hid (lvl_len l hs l.length)
            have HNX := hid (mk_step HG.out HMK.out)
            generalize lvl l hs l.length = bs3 at *
            go_upto_region 18 with fail
            refine wp_region_lit ?_
            refine wpList_bs_load rfl (.tmp 9) rfl rfl HBb.out HLL.out ?_
            obtain ⟨w5, HSA, Bh5, hK5⟩ := bs_storeAt HBh.out HMK.out.len bs3 HLL.out
            refine wpList_bs_store rfl (.tmp 8) (.tmp 51) rfl rfl rfl HSA ?_
            have Bb5 := hid (HBb.out.keep hK5 (by omega))
            have Ba5 := hid (HBa.out.keep hK5 (by omega))
            have hb5 : Hid (Below w.heap.size w w5) := hid (hbi.out.trans (hK5.below hbi.out.size (fun b hb => by omega)))
            have HB5 := hid Bh5
            clear Bh5 hK5 HSA
            go_wp2
            exact ⟨⟨d + 1, bs3, bs3, by simp, by omega, HNX, HWn, HLL, HB5, Bb5, Ba5, hb5⟩, by simp [numAt]; omega⟩
    · have h2 : ¬ (d : Int) < (l.length : Int) + 1 := by omega
      have HR : Hid (0 = res) := hid (HX.out 0 (.inl ⟨rfl, HWY.out _ (by omega)⟩))
      go_wp2
      go_ret2
      exact ⟨by rw [← HR.out]; rfl, hb.out⟩
end Go.Proofs.YtbiohlfcikdldaaDoor
namespace Go.Proofs.YtbiohlfcikdldaaDoor
open Go.RowKit
set_option maxRecDepth 1000000
set_option linter.unusedVariables false
set_option linter.unusedSimpArgs false
set_option maxHeartbeats 2000000
end Go.Proofs.YtbiohlfcikdldaaDoor
namespace Go.Proofs.YtbiohlfcikdldaaDoor
open Go.RowKit
set_option maxRecDepth 1000000
set_option linter.unusedVariables false
set_option linter.unusedSimpArgs false
set_option maxHeartbeats 1000000
theorem cutI_none : ∀ (l : List Int), (∀ c ∈ l, c ≠ 46) → cutI l = [l]
  | [], _ => rfl
  | c :: r, h => by
    rw [cutI, if_neg (h c (by simp)), cutI_none r (fun c hc => h c (by simp [hc]))]
    rfl
theorem cutI_at : ∀ (a b : List Int), (∀ c ∈ a, c ≠ 46) → cutI (a ++ 46 :: b) = a :: cutI b
  | [], b, _ => by simp [cutI]
  | c :: r, b, h => by
    rw [List.cons_append, cutI, if_neg (h c (by simp)), cutI_at r b (fun c hc => h c (by simp [hc]))]
    rfl
/-- While it is cut: P stands, from fr on there is no dot up to i. -/
structure Cut (xs : List Int) (P : List (List Int)) (fr i : Nat) : Prop where
  is : cutI xs = P ++ cutI (xs.drop fr)
  le : fr ≤ i
  no : ∀ c ∈ (xs.take i).drop fr, c ≠ 46
  few : P.length ≤ i
theorem Cut.dot {xs : List Int} {P : List (List Int)} {fr i : Nat} (h : Cut xs P fr i) (hi : i < xs.length) (hx : xs[i] = 46) : Cut xs (P ++ [(xs.take i).drop fr]) (i + 1) (i + 1) := by
  refine ⟨?_, by omega, by simp, by have := h.few; simp; omega⟩
  have e : xs.drop fr = (xs.take i).drop fr ++ 46 :: xs.drop (i + 1) := by
    have e1 : xs = xs.take i ++ 46 :: xs.drop (i + 1) := by rw [← hx, List.getElem_cons_drop, List.take_append_drop]
    conv => lhs; rw [e1]
    rw [List.drop_append_of_le_length (by simp; have := h.le; omega)]
  rw [h.is, e, cutI_at _ _ h.no, List.append_assoc]
  rfl
theorem Cut.fin {xs : List Int} {P : List (List Int)} {fr : Nat} (h : Cut xs P fr xs.length) : P ++ [(xs.take xs.length).drop fr] = cutI xs := by
  rw [h.is, List.take_length, cutI_none]
  have := h.no
  rw [List.take_length] at this
  exact this
end Go.Proofs.YtbiohlfcikdldaaDoor
namespace Go.Proofs.YtbiohlfcikdldaaDoor
open Go.RowKit
set_option maxRecDepth 1000000
set_option linter.unusedVariables false
set_option linter.unusedSimpArgs false
set_option maxHeartbeats 1000000
end Go.Proofs.YtbiohlfcikdldaaDoor
namespace Go.Proofs.YtbiohlfcikdldaaDoor
open Go.RowKit
set_option maxRecDepth 1000000
set_option linter.unusedVariables false
set_option linter.unusedSimpArgs false
set_option maxHeartbeats 1000000
end Go.Proofs.YtbiohlfcikdldaaDoor
namespace Go.Proofs.YtbiohlfcikdldaaDoor
open Go.RowKit
set_option maxRecDepth 1000000
set_option linter.unusedVariables false
set_option linter.unusedSimpArgs false
set_option maxHeartbeats 1000000
end Go.Proofs.YtbiohlfcikdldaaDoor
namespace Go.Proofs.YtbiohlfcikdldaaDoor
open Go.RowKit
set_option maxRecDepth 1000000
set_option linter.unusedVariables false
set_option linter.unusedSimpArgs false
set_option maxHeartbeats 1000000
end Go.Proofs.YtbiohlfcikdldaaDoor
namespace Go.Proofs.YtbiohlfcikdldaaDoor
open Go.RowKit
set_option maxRecDepth 1000000
set_option linter.unusedVariables false
set_option linter.unusedSimpArgs false
set_option maxHeartbeats 1000000
end Go.Proofs.YtbiohlfcikdldaaDoor
namespace Go.Proofs.YtbiohlfcikdldaaDoor
open Go.RowKit
set_option maxRecDepth 1000000
set_option linter.unusedVariables false
set_option linter.unusedSimpArgs false
set_option maxHeartbeats 1000000
end Go.Proofs.YtbiohlfcikdldaaDoor
namespace Go.Proofs.YtbiohlfcikdldaaDoor
open Go.RowKit
set_option maxRecDepth 1000000
set_option linter.unusedVariables false
set_option linter.unusedSimpArgs false
set_option maxHeartbeats 1000000
end Go.Proofs.YtbiohlfcikdldaaDoor
namespace Go.Proofs.YtbiohlfcikdldaaDoor
open Go.RowKit
set_option maxRecDepth 1000000
set_option linter.unusedVariables false
set_option linter.unusedSimpArgs false
set_option maxHeartbeats 1000000
end Go.Proofs.YtbiohlfcikdldaaDoor
namespace Go.Proofs.YtbiohlfcikdldaaDoor
open Go.RowKit
set_option maxRecDepth 1000000
set_option linter.unusedVariables false
set_option linter.unusedSimpArgs false
set_option maxHeartbeats 10000000
end Go.Proofs.YtbiohlfcikdldaaDoor
namespace Go.Proofs.YtbiohlfcikdldaaDoor
open Go.RowKit
set_option maxRecDepth 1000000
set_option linter.unusedVariables false
set_option linter.unusedSimpArgs false
set_option maxHeartbeats 1000000
end Go.Proofs.YtbiohlfcikdldaaDoor
namespace Go.Proofs.YtbiohlfcikdldaaDoor
open Go.RowKit
set_option maxRecDepth 1000000
set_option linter.unusedVariables false
set_option linter.unusedSimpArgs false
set_option maxHeartbeats 1000000
end Go.Proofs.YtbiohlfcikdldaaDoor
namespace Go.Proofs.YtbiohlfcikdldaaDoor
open Go.RowKit
set_option maxRecDepth 1000000
set_option linter.unusedVariables false
set_option linter.unusedSimpArgs false
set_option maxHeartbeats 1000000
end Go.Proofs.YtbiohlfcikdldaaDoor
namespace Go.Proofs.YtbiohlfcikdldaaDoor
open Go.RowKit
set_option maxRecDepth 1000000
set_option linter.unusedVariables false
set_option linter.unusedSimpArgs false
set_option maxHeartbeats 1000000
end Go.Proofs.YtbiohlfcikdldaaDoor
namespace Go.Proofs.YtbiohlfcikdldaaDoor
open Go.RowKit
set_option maxRecDepth 1000000
set_option linter.unusedVariables false
set_option linter.unusedSimpArgs false
set_option maxHeartbeats 1000000
end Go.Proofs.YtbiohlfcikdldaaDoor
namespace Go.Proofs.YtbiohlfcikdldaaDoor
open Go.RowKit
set_option maxRecDepth 1000000
set_option linter.unusedVariables false
set_option linter.unusedSimpArgs false
set_option maxHeartbeats 1000000
end Go.Proofs.YtbiohlfcikdldaaDoor
namespace Go.Proofs.YtbiohlfcikdldaaDoor
open Go.RowKit
set_option maxRecDepth 1000000
set_option linter.unusedVariables false
set_option linter.unusedSimpArgs false
set_option maxHeartbeats 1000000
theorem awake7 (w : World) (m : Int) (hm : w.cell? ⟨0, 0, none⟩ = some (.int .i64 m)) : Calls Tryd.prog 9 #[] w fun e w' => e = .returned (.bool true) ∧ Below w.heap.size w w' := by
  have HM := hid hm
  clear hm
  have HTX : Hid (TxA [77]) := hid ⟨by decide, by decide⟩
  have HF : Hid (∀ (h : Nat) (W : World) (a : Option Addr), Below w.heap.size w W → TbR W (.slice a (simL h).length 2) (simL h) → Calls Tryd.prog 8 #[.agg #[.slice a (simL h).length 2], .string ⟨#[77]⟩] W fun e w' => e = .returned (.tuple #[.int .i64 1, .int .i64 0]) ∧ Below W.heap.size W w') := hid fun h W a hW hT => by
    have := findT W (simL h) a 2 hT (simOk h) m (cell_below HM.out hW) [77] HTX.out
    rw [simFind] at this
    exact this
  have HG : Hid (∀ (h : Nat) (W : World) (a : Option Addr), Below w.heap.size w W → TbR W (.slice a (simL h).length 2) (simL h) → Calls Tryd.prog 10 #[.agg #[.slice a (simL h).length 2]] W fun e w' => e = .returned (.bool true) ∧ Below W.heap.size W w') := hid fun h W a hW hT => by
    have := goodT W (simL h) a 2 hT (simOk h) m (cell_below HM.out hW)
    rw [simGood] at this
    exact this
  go_enter Tryd.func9, Tryd.ntmps9
  go_wp2_with fail
  refine (simpleW _).mono ?_
  rintro e w1 ⟨rfl, ht1, hb1⟩
  have HT1 := hid ht1
  replace hb1 : Hid (Below w.heap.size w w1) := hid (bl_then (by exact blBy) hb1)
  clear ht1
  go_wp2_with fail
  refine (HF.out _ _ _ (by have := hb1.out; exact blBy) HT1.out).mono ?_
  rintro e w2 ⟨rfl, hb2⟩
  replace hb2 : Hid (Below w.heap.size w w2) := hid (bl_then (by have := hb1.out; exact blBy) hb2)
  go_wp2_with fail
  refine (simpleW _).mono ?_
  rintro e w3 ⟨rfl, ht3, hb3⟩
  have HT3 := hid ht3
  replace hb3 : Hid (Below w.heap.size w w3) := hid (bl_then (by have := hb2.out; exact blBy) hb3)
  clear ht3
  go_wp2_with fail
  refine (takesSim _ _ _ _ HT3.out m (cell_below HM.out hb3.out)).mono ?_
  rintro e w4 ⟨rfl, hb4⟩
  replace hb4 : Hid (Below w.heap.size w w4) := hid (bl_then (by have := hb3.out; exact blBy) hb4)
  go_wp2_with fail
  refine (simpleW _).mono ?_
  rintro e w5 ⟨rfl, ht5, hb5⟩
  have HT5 := hid ht5
  replace hb5 : Hid (Below w.heap.size w w5) := hid (bl_then (by have := hb4.out; exact blBy) hb5)
  clear ht5
  go_wp2_with fail
  refine (HG.out _ _ _ (by have := hb5.out; exact blBy) HT5.out).mono ?_
  rintro e w6 ⟨rfl, hb6⟩
  replace hb6 : Hid (Below w.heap.size w w6) := hid (bl_then (by have := hb5.out; exact blBy) hb6)
  go_wp2
  go_ret
  exact ⟨rfl, hb6.out⟩
end Go.Proofs.YtbiohlfcikdldaaDoor
namespace Go.Proofs.YtbiohlfcikdldaaDoor
open Go.RowKit
set_option maxRecDepth 1000000
set_option linter.unusedVariables false
set_option linter.unusedSimpArgs false
set_option maxHeartbeats 1000000
end Go.Proofs.YtbiohlfcikdldaaDoor
namespace Go.Proofs.YtbiohlfcikdldaaDoor
open Go.RowKit
set_option maxRecDepth 1000000
set_option linter.unusedVariables false
set_option linter.unusedSimpArgs false
set_option maxHeartbeats 2000000
theorem row_tail {w : World} {k b o n c : Nat} {x fl : List Value} (hx : x.length = k) (h : RowS w AnyZ k (.slice (some ⟨b, o, none⟩) (n + 1) (c + 1)) (n + 1) (x ++ fl)) : RowS w AnyZ k (.slice (some ⟨b, o + k, none⟩) n c) n fl := by
  obtain ⟨a, c', e, h⟩ := h
  cases e
  refine ⟨_, _, rfl, ?_, by have := h.le; omega, by have := h.max; omega, ?_⟩
  · have := h.length
    rw [List.length_append, hx, Nat.add_mul, Nat.one_mul] at this
    omega
  · rcases h.cells with ⟨h0, _⟩ | ⟨b', o', e, hz, hc⟩
    · omega
    · cases e
      refine .inr ⟨b, o + k, rfl, trivial, fun j u hu => ?_⟩
      have := hc (k + j) u (by rw [List.getElem?_append_right (by omega), hx, Nat.add_sub_cancel_left]; exact hu)
      rw [show o + k + j = o + (k + j) by omega]
      exact this
theorem tableKnownW (w : World) (m : Int) (hm : w.cell? ⟨0, 0, none⟩ = some (.int .i64 m)) : Calls Tryd.prog 3 #[] w fun e w' => e = .returned (.bool true) ∧ Below w.heap.size w w' := by
  go_enter Tryd.func3, Tryd.ntmps3
  go_wp2_with fail
  refine (simpleW _).mono ?_
  rintro e w1 ⟨rfl, ht, hb1⟩
  replace hb1 : Hid (Below w.heap.size w w1) := hid (bl_then (by exact blBy) hb1)
  have HM := hid (cell_below hm hb1.out)
  have HT := hid ht
  have hs : ∀ h, (simL h).length = 2 := fun _ => rfl
  have HZ : Hid (∀ h, ∀ x ∈ simL h, ∀ s ∈ x.t.ss, s.name.length ≤ 4000000) := hid fun h x hx s hs => by
    rcases List.mem_cons.1 hx with rfl | hx
    · simp [simE] at hs; subst hs; simp
    · rcases List.mem_cons.1 hx with rfl | hx
      · simp [simM] at hs
      · cases hx
  have HO := hid simOk
  have HG := hid simGood
  clear ht hm
  rw [hs] at HT
  have HTA : Hid (TbR w1 (.slice (some ⟨w.heap.size + 1 + 1 + 1, 6, none⟩) [simM w.heap.size].length 1) [simM w.heap.size]) := hid ⟨row_tail (k := 6) (n := 1) (c := 1) (o := 0) (x := cTV (simE w.heap.size)) rfl HT.out.row, fun x hx => HT.out.ty x (List.mem_cons_of_mem _ hx)⟩
  generalize w.heap.size + 1 + 1 + 1 = pb at *
  have F1 : Hid (∀ W, Below w1.heap.size w1 W → Calls Tryd.prog 8 #[.agg #[.slice (some ⟨pb, 0, none⟩) 2 2], .string ⟨#[78]⟩] W fun e w' => e = .returned (.tuple #[.int .i64 0, .int .i64 20]) ∧ Below W.heap.size W w') := hid fun W hW => by
    have := findT W (simL w.heap.size) (some ⟨pb, 0, none⟩) 2 (HT.out.kept hW) (HO.out _) m (cell_below HM.out hW) [78] ⟨by decide, by decide⟩
    exact this
  have F2 : Hid (∀ W, Below w1.heap.size w1 W → Calls Tryd.prog 9 #[] W fun e w' => e = .returned (.bool true) ∧ Below W.heap.size W w') := hid fun W hW => awake7 W m (cell_below HM.out hW)
  have F3 : Hid (∀ W, Below w1.heap.size w1 W → Calls Tryd.prog 10 #[.agg #[.slice none 0 0]] W fun e w' => e = .returned (.bool true) ∧ Below W.heap.size W w') := hid fun W hW => by
    have := goodT W [] none 0 ⟨rowS_nil _ _ _, fun x hx => by cases hx⟩ (fun x hx => by cases hx) m (cell_below HM.out hW)
    exact this
  have F4 : Hid (∀ W, Below w1.heap.size w1 W → Calls Tryd.prog 10 #[.agg #[.slice (some ⟨pb, 6, none⟩) 1 1]] W fun e w' => e = .returned (.bool false) ∧ Below W.heap.size W w') := hid fun W hW => by
    have := goodT W [simM w.heap.size] (some ⟨pb, 6, none⟩) 1 (HTA.out.kept hW) (fun x hx => HO.out w.heap.size x (List.mem_cons_of_mem _ hx)) m (cell_below HM.out hW)
    exact this
  have T0 : Hid (∀ W, Below w1.heap.size w1 W → Calls Tryd.prog 11 #[.agg #[.slice (some ⟨pb, 0, none⟩) 2 2], .int .i64 1, .int .i64 1, .int .i64 0] W fun e w' => e = .returned (.tuple #[.int .i64 1, .int .i64 0]) ∧ Below W.heap.size W w') := hid fun W hW => by
    have := takesPT W (simL w.heap.size) (some ⟨pb, 0, none⟩) 2 (HT.out.kept hW) (HO.out _) m (cell_below HM.out hW) 1 1 0
    exact this
  have T1 : Hid (∀ W, Below w1.heap.size w1 W → Calls Tryd.prog 11 #[.agg #[.slice (some ⟨pb, 0, none⟩) 2 2], .int .i64 1, .int .i64 2, .int .i64 0] W fun e w' => e = .returned (.tuple #[.int .i64 1, .int .i64 0]) ∧ Below W.heap.size W w') := hid fun W hW => by
    have := takesPT W (simL w.heap.size) (some ⟨pb, 0, none⟩) 2 (HT.out.kept hW) (HO.out _) m (cell_below HM.out hW) 1 2 0
    exact this
  have T2 : Hid (∀ W, Below w1.heap.size w1 W → Calls Tryd.prog 11 #[.agg #[.slice (some ⟨pb, 0, none⟩) 2 2], .int .i64 1, .int .i64 3, .int .i64 0] W fun e w' => e = .returned (.tuple #[.int .i64 0, .int .i64 0]) ∧ Below W.heap.size W w') := hid fun W hW => by
    have := takesPT W (simL w.heap.size) (some ⟨pb, 0, none⟩) 2 (HT.out.kept hW) (HO.out _) m (cell_below HM.out hW) 1 3 0
    exact this
  have T3 : Hid (∀ W, Below w1.heap.size w1 W → Calls Tryd.prog 11 #[.agg #[.slice (some ⟨pb, 0, none⟩) 2 2], .int .i64 0, .int .i64 1, .int .i64 0] W fun e w' => e = .returned (.tuple #[.int .i64 0, .int .i64 18]) ∧ Below W.heap.size W w') := hid fun W hW => by
    have := takesPT W (simL w.heap.size) (some ⟨pb, 0, none⟩) 2 (HT.out.kept hW) (HO.out _) m (cell_below HM.out hW) 0 1 0
    exact this
  have S0 : Hid (∀ W, Below w1.heap.size w1 W → Calls Tryd.prog 12 #[.agg #[.slice (some ⟨pb, 0, none⟩) 2 2], .int .i64 0, .int .i64 0] W fun e w' => e = .returned (.tuple #[.string ⟨#[65]⟩, .int .i64 0]) ∧ Below W.heap.size W w') := hid fun W hW => by
    have := symbolPT W (simL w.heap.size) (some ⟨pb, 0, none⟩) 2 (HT.out.kept hW) (HO.out _) (HZ.out _) m (cell_below HM.out hW) 0 0
    exact this
  have S1 : Hid (∀ W, Below w1.heap.size w1 W → Calls Tryd.prog 13 #[.agg #[.slice (some ⟨pb, 0, none⟩) 2 2], .int .i64 0, .string ⟨#[66]⟩] W fun e w' => e = .returned (.tuple #[.int .i64 0, .int .i64 20]) ∧ Below W.heap.size W w') := hid fun W hW => by
    have := numberPT W (simL w.heap.size) (some ⟨pb, 0, none⟩) 2 (HT.out.kept hW) (HO.out _) (HZ.out _) m (cell_below HM.out hW) 0 [66] ⟨by decide, by decide⟩
    exact this
  have D1 : Hid (∀ W, Below w1.heap.size w1 W → Calls Tryd.prog 14 #[.agg #[.slice (some ⟨pb, 0, none⟩) 2 2], .int .i64 1] W fun e w' => e = .returned (.tuple #[.int .i64 0, .int .i64 0]) ∧ Below W.heap.size W w') := hid fun W hW => by
    have := depthsOk W (simL w.heap.size) (some ⟨pb, 0, none⟩) 2 (HT.out.kept hW) (HO.out _) m (cell_below HM.out hW) 1 (show 1 < 2 by decide) (HG.out _) rfl
    exact this
  have D0 : Hid (∀ W, Below w1.heap.size w1 W → Calls Tryd.prog 14 #[.agg #[.slice (some ⟨pb, 0, none⟩) 2 2], .int .i64 0] W fun e w' => e = .returned (.tuple #[.int .i64 0, .int .i64 18]) ∧ Below W.heap.size W w') := hid fun W hW => by
    have := depthsNo W (simL w.heap.size) (some ⟨pb, 0, none⟩) 2 (HT.out.kept hW) (HO.out _) m (cell_below HM.out hW) 0 (by kernel_rfl)
    exact this
  rw [hs]
  clear HM HT HZ HO HG hs HTA
  go_wp2_with fail
  refine (F1.out _ (by exact blBy)).mono ?_
  rintro e w2 ⟨rfl, hb⟩
  have Bt : Blk w2 w1.heap.size 24 #[.slice (some ⟨pb, 0, none⟩) 2 2] := ((Blk.new _ _ _).kept (below_alloc _)).kept hb
  have Ba : Blk w2 (w1.heap.size + 1) 24 #[.slice (some ⟨pb, 6, none⟩) 1 1] := (Blk.newAt (by simp)).kept hb
  have hbz : Hid (Below w1.heap.size w1 w2) := hid (bl_then (by exact blBy) hb)
  clear hb
  have xt := Bt.cellF
  have zt := Bt.lt
  have xa := Ba.cellF
  have za := Ba.lt
  go_wp2_with fail
  refine (F2.out _ (by have := hbz.out; exact blBy)).mono ?_
  rintro e w3 ⟨rfl, hb⟩
  replace Bt := Bt.kept hb
  replace Ba := Ba.kept hb
  replace hbz : Hid (Below w1.heap.size w1 w3) := hid (bl_then (by have := hbz.out; exact blBy) hb)
  clear hb xt zt xa za
  have xt := Bt.cellF
  have zt := Bt.lt
  have xa := Ba.cellF
  have za := Ba.lt
  go_wp2_with fail
  refine (F3.out _ (by have := hbz.out; exact blBy)).mono ?_
  rintro e w4 ⟨rfl, hb⟩
  replace Bt := Bt.kept hb
  replace Ba := Ba.kept hb
  replace hbz : Hid (Below w1.heap.size w1 w4) := hid (bl_then (by have := hbz.out; exact blBy) hb)
  clear hb xt zt xa za
  have xt := Bt.cellF
  have zt := Bt.lt
  have xa := Ba.cellF
  have za := Ba.lt
  go_wp2_with fail
  refine (F4.out _ (by have := hbz.out; exact blBy)).mono ?_
  rintro e w5 ⟨rfl, hb⟩
  replace Bt := Bt.kept hb
  replace Ba := Ba.kept hb
  replace hbz : Hid (Below w1.heap.size w1 w5) := hid (bl_then (by have := hbz.out; exact blBy) hb)
  clear hb xt zt xa za
  have xt := Bt.cellF
  have zt := Bt.lt
  have xa := Ba.cellF
  have za := Ba.lt
  go_wp2_with fail
  refine (T0.out _ (by have := hbz.out; exact blBy)).mono ?_
  rintro e w6 ⟨rfl, hb⟩
  replace Bt := Bt.kept hb
  replace Ba := Ba.kept hb
  replace hbz : Hid (Below w1.heap.size w1 w6) := hid (bl_then (by have := hbz.out; exact blBy) hb)
  clear hb xt zt xa za
  have xt := Bt.cellF
  have zt := Bt.lt
  have xa := Ba.cellF
  have za := Ba.lt
  go_wp2_with fail
  refine (T1.out _ (by have := hbz.out; exact blBy)).mono ?_
  rintro e w7 ⟨rfl, hb⟩
  replace Bt := Bt.kept hb
  replace Ba := Ba.kept hb
  replace hbz : Hid (Below w1.heap.size w1 w7) := hid (bl_then (by have := hbz.out; exact blBy) hb)
  clear hb xt zt xa za
  have xt := Bt.cellF
  have zt := Bt.lt
  have xa := Ba.cellF
  have za := Ba.lt
  go_wp2_with fail
  refine (T2.out _ (by have := hbz.out; exact blBy)).mono ?_
  rintro e w8 ⟨rfl, hb⟩
  replace Bt := Bt.kept hb
  replace Ba := Ba.kept hb
  replace hbz : Hid (Below w1.heap.size w1 w8) := hid (bl_then (by have := hbz.out; exact blBy) hb)
  clear hb xt zt xa za
  have xt := Bt.cellF
  have zt := Bt.lt
  have xa := Ba.cellF
  have za := Ba.lt
  go_wp2_with fail
  refine (T3.out _ (by have := hbz.out; exact blBy)).mono ?_
  rintro e w9 ⟨rfl, hb⟩
  replace Bt := Bt.kept hb
  replace Ba := Ba.kept hb
  replace hbz : Hid (Below w1.heap.size w1 w9) := hid (bl_then (by have := hbz.out; exact blBy) hb)
  clear hb xt zt xa za
  have xt := Bt.cellF
  have zt := Bt.lt
  have xa := Ba.cellF
  have za := Ba.lt
  go_wp2_with fail
  refine (S0.out _ (by have := hbz.out; exact blBy)).mono ?_
  rintro e w10 ⟨rfl, hb⟩
  replace Bt := Bt.kept hb
  replace Ba := Ba.kept hb
  replace hbz : Hid (Below w1.heap.size w1 w10) := hid (bl_then (by have := hbz.out; exact blBy) hb)
  clear hb xt zt xa za
  have xt := Bt.cellF
  have zt := Bt.lt
  have xa := Ba.cellF
  have za := Ba.lt
  go_wp2_with fail
  refine (S1.out _ (by have := hbz.out; exact blBy)).mono ?_
  rintro e w11 ⟨rfl, hb⟩
  replace Bt := Bt.kept hb
  replace Ba := Ba.kept hb
  replace hbz : Hid (Below w1.heap.size w1 w11) := hid (bl_then (by have := hbz.out; exact blBy) hb)
  clear hb xt zt xa za
  have xt := Bt.cellF
  have zt := Bt.lt
  have xa := Ba.cellF
  have za := Ba.lt
  go_wp2_with fail
  refine (D1.out _ (by have := hbz.out; exact blBy)).mono ?_
  rintro e w12 ⟨rfl, hb⟩
  replace Bt := Bt.kept hb
  replace Ba := Ba.kept hb
  replace hbz : Hid (Below w1.heap.size w1 w12) := hid (bl_then (by have := hbz.out; exact blBy) hb)
  clear hb xt zt xa za
  have xt := Bt.cellF
  have zt := Bt.lt
  have xa := Ba.cellF
  have za := Ba.lt
  go_wp2_with fail
  refine (D0.out _ (by have := hbz.out; exact blBy)).mono ?_
  rintro e w13 ⟨rfl, hb⟩
  replace Bt := Bt.kept hb
  replace Ba := Ba.kept hb
  replace hbz : Hid (Below w1.heap.size w1 w13) := hid (bl_then (by have := hbz.out; exact blBy) hb)
  clear hb xt zt xa za
  go_wp2
  go_ret
  exact ⟨rfl, below_trans hb1.out hbz.out⟩
end Go.Proofs.YtbiohlfcikdldaaDoor
namespace Go.Proofs.YtbiohlfcikdldaaDoor
open Go.ChangeShapes Go.WideShapes Go.ChangeAt Go.RowKit Go.Deep
set_option maxRecDepth 1000000
section
variable {H : Type}
end
end Go.Proofs.YtbiohlfcikdldaaDoor
namespace Go.Proofs.YtbiohlfcikdldaaDoor
open Go.ChangeShapes Go.WideShapes Go.ChangeAt Go.RowKit Go.Deep
set_option maxRecDepth 1000000
set_option linter.unusedVariables false
set_option linter.unusedSimpArgs false
set_option maxHeartbeats 1000000
section
variable {H : Type} {enc : TypeId × Value → H} {W : World} {spare : Nat → Bool} {held : Bool}
end
end Go.Proofs.YtbiohlfcikdldaaDoor
namespace Go.Proofs.YtbiohlfcikdldaaDoor
open Go.ChangeShapes Go.WideShapes Go.ChangeAt Go.RowKit Go.Deep
set_option maxRecDepth 1000000
set_option linter.unusedVariables false
set_option linter.unusedSimpArgs false
set_option maxHeartbeats 1000000
section
variable {H : Type} {enc : TypeId × Value → H} {W : World} {spare : Nat → Bool} {held : Bool}
end
end Go.Proofs.YtbiohlfcikdldaaDoor
namespace Go.Proofs.YtbiohlfcikdldaaDoor
open Go.ChangeShapes Go.WideShapes Go.ChangeAt Go.RowKit
set_option maxRecDepth 1000000
set_option maxRecDepth 100000
/-- The rows' list. -/
def laidL : List (String × DataW Unit) := [("unicode/utf8.acceptRanges", Rows.laid_unicode_utf8_acceptRanges), ("unicode/utf8.first", Rows.laid_unicode_utf8_first)]
theorem laid_plain {W : World} (h : laidMetH Tryd.prog laidL W) : laidMet Tryd.prog laidL W := h
/-- A block's cells laid anew. -/
noncomputable def layAt (g : Nat) (cs : Array Value) (w : World) : World := { w with heap := w.heap.modify g fun
      | .cells _ t frozen => .cells cs t frozen
      | o => o }
def numV : DataW Unit → Value
  | .lit (.int k n) => .int k n
  | _ => undef
def rowV : DataW Unit → List Value
  | .agg ds => ds.map numV
  | _ => []
def rowsV : DataW Unit → List Value
  | .agg ds => ds.flatMap rowV
  | _ => []
noncomputable def laidWorld (os : Os) : World :=
  layAt 2 (List.toArray (rowsV Rows.laid_unicode_utf8_acceptRanges)) (layAt 1 (List.toArray (rowV Rows.laid_unicode_utf8_first)) (World.holding Tryd.prog os ⟨#[], #[], []⟩))
theorem laid_met (os : Os) (args : Array Value) : laidMet Tryd.prog laidL ((laidWorld os).forCall (fun _ _ => 0) ⟨#[], args, []⟩).memory :=
  laidMet_of_run' 8 (by kernel_rfl) (by kernel_rfl)
theorem maxLen_cell {W : World} (h : W.ShapedOpen Tryd.prog) : ∃ m, W.cell? ⟨0, 0, none⟩ = some (.int .i64 m) :=
  Go.Proofs.cell_of_shapedOpen_int (zero := #[.int .i64 0]) (t := 3) h (of_decide_eq_true (by kernel_rfl)) (by kernel_rfl) rfl (by kernel_rfl) (by kernel_rfl) Tryd.underlying3
end Go.Proofs.YtbiohlfcikdldaaDoor
